import PyProof.Rows.All
import Wide.All
import OpenK.AllK
import Wide.FinOn
import HandS.ForMost
import HandS.IsInst
import HandS.Wide
import HandS.Evl
import HandS.DictComp
import HandS.Conv
import HandS.More
import HandS.Deep
import HandS.ForExc
import HandS.ExcInit
import HandS.ExcField
import HandS.ExcIs
import HandS.Property
import KE.KExcIs
import HandS.NoneIn
import HandS.DeepEq
import HandS.Finally
import HandS.CallSlots
import HandS.Walk
import HandS.DictTup
import HandS.Iter
import HandS.TupLen
import PyProof.DictMoreH
import HandS.Rev
import HandS.Codes
import KE.DataCmp
import KE.SortKeyHeap
import HandS.SortKw
import KE.KEqNest
import HandS.DictEq
import HandS.TupAny
import PySem.Challenge.RW_cappedcalls_k40_question_forms
set_option Elab.async false
set_option linter.all false
set_option maxRecDepth 100000
set_option maxHeartbeats 4000000
namespace SK
open PySem PySem.SeqAt PySem.W PySem.Calls PyProof.Rows
/-! ### one tuple below another: only the first place that differs has to be asked -/
theorem tup_lt1 (l b : Addr) (us ws : Array Value) (n1 n2 : Nat) (d1 d2 : Option Addr) (t1 t2 : Array (Option Value)) (e r : Nat → Bool) :
    Meets (Builtin.«tuple.__lt__» ⟨[.ref l, .ref b], []⟩) (fun A R s =>
      (s.heap.get? l = some { cls := .type "tuple", dict := d1, data := .seq us n1, slots := t1 } ∧ s.heap.get? b = some { cls := .type "tuple", dict := d2, data := .seq ws n2, slots := t2 }) ∧
      (∀ j (x1 : j < us.size) (x2 : j < ws.size), EqAt A.in1 s us[j] ws[j] (e j)) ∧
      (∀ j (x1 : j < us.size) (x2 : j < ws.size), (∀ k, k < j → e k = true) → e j = false → RcLt A.in1 s us[j] ws[j] (r j)) ∧
      R (.ok (.ret (.bool (firstLt e r (decide (us.size < ws.size)) (List.range (min us.size ws.size)))))) s) := by
  refine .of_wp fun prog w A R s h => ?_
  obtain ⟨hp, g, d, tk, os⟩ := s
  obtain ⟨⟨hl, hb⟩, he, hr, h⟩ := h
  have sub := AutoSeq1.sub_tuple_tuple
  have len : (us.toList.zip ws.toList).length = min us.size ws.size := by simp
  wp_walk using wpAny_loadPart' hl, wpAny_loadPart' hb, wpAny_forIn_list _ (fun left b s' => (b.1 = none ∧ s' = ⟨hp, g, d, tk, os⟩) ∧ ∃ i, (left = (us.toList.zip ws.toList).drop i ∧ ∀ k, k < i → e k = true) ∧
    R (.ok (.ret (.bool (firstLt e r (decide (us.size < ws.size)) ((List.range (min us.size ws.size)).drop i))))) ⟨hp, g, d, tk, os⟩) _
  case turn =>
    rintro ⟨y, x⟩ left b s' ⟨⟨b0, rfl⟩, i, ⟨hz, hk⟩, hR⟩
    have lt : i < (us.toList.zip ws.toList).length := by
      refine Nat.lt_of_not_le fun q => ?_
      rw [List.drop_of_length_le q] at hz
      cases hz
    have lm : i < min us.size ws.size := by omega
    have x1 : i < us.size := by omega
    have x2 : i < ws.size := by omega
    rw [List.drop_eq_getElem_cons lt] at hz
    injection hz with z1 z2
    have ey : y = us[i] := by simpa using congrArg Prod.fst z1
    have ex : x = ws[i] := by simpa using congrArg Prod.snd z1
    subst ey ex
    rw [show (List.range (min us.size ws.size)).drop i = i :: (List.range (min us.size ws.size)).drop (i + 1) by simp [List.drop_eq_getElem_cons, lm]] at hR
    refine wpAny_bind (he i x1 x2 prog w _ _ ?_)
    cases q : e i with
    | true =>
      rw [firstLt_yes q] at hR
      wp_walk
      exact ⟨⟨rfl, rfl⟩, i + 1, ⟨z2, fun k hki => by
        rcases Nat.lt_succ_iff_lt_or_eq.mp hki with h | h
        · exact hk k h
        · rw [h]
          exact q⟩, hR⟩
    | false =>
      rw [firstLt_no q] at hR
      have hr' : ∀ (E Q : Value → Shared → Prop), Q (.bool (r i)) ⟨hp, g, d, tk, os⟩ → wpAny (model prog w) A.in1 (richCompare .Lt us[i] ws[i]) Q E ⟨hp, g, d, tk, os⟩ := fun E Q => hr i x1 x2 hk q prog w E Q
      generalize richCompare .Lt us[i] ws[i] = m at hr' ⊢
      wp_walk
      refine hr' _ _ ?_
      wp_walk
      exact ⟨_, rfl, hR⟩
  case fin =>
    rintro ⟨b1, b2⟩ s' ⟨⟨b0, rfl⟩, i, ⟨hz, _⟩, hR⟩
    simp only at b0
    subst b0
    have ge : min us.size ws.size ≤ i := by
      refine Nat.le_of_not_lt fun q => ?_
      rw [← len] at q
      rw [List.drop_eq_getElem_cons q] at hz
      cases hz
    rw [List.drop_of_length_le (by simpa using ge)] at hR
    wp_walk
    exact ⟨_, rfl, by simpa [Builtin.Tuple.tupleCompareSizes, firstLt] using hR⟩
  case h => exact ⟨⟨rfl, rfl⟩, 0, ⟨rfl, fun k hk => absurd hk (Nat.not_lt_zero k)⟩, by simpa using h⟩
section
variable {A : Around} {s : Shared}
theorem rc_tups {l b : Addr} {us ws : Array Value} {e r : Nat → Bool} (hl : s.heap.IsTuple l us) (hb : s.heap.IsTuple b ws) (hu : A.units < cLine)
    (he : ∀ j (x1 : j < us.size) (x2 : j < ws.size), EqAt A.in1 s us[j] ws[j] (e j)) (hr : ∀ j (x1 : j < us.size) (x2 : j < ws.size), (∀ k, k < j → e k = true) → e j = false → RcLt A.in1 s us[j] ws[j] (r j)) :
    RcLt A s (.ref l) (.ref b) (firstLt e r (decide (us.size < ws.size)) (List.range (min us.size ws.size))) := fun prog w E Q h => by
  obtain ⟨⟨c1, d1, x1, t1⟩, o1, h1, n1, k1⟩ := id hl
  obtain ⟨⟨c2, d2, x2, t2⟩, o2, h2, n2, k2⟩ := id hb
  simp only at h1 k1 h2 k2
  subst h1 k1 h2 k2
  exact richCompare_meets_room (op := .Lt) ⟨_, o1, rfl⟩ ⟨_, o2, rfl⟩ F.slot_tuple_lt F.entry_tuple_lt (F.args_tuple_lt_2 _ _) (tup_lt1 l b us ws n1 n2 d1 d2 t1 t2 e r) ⟨⟨o1, o2⟩, he, hr, (fun z => nomatch z), h⟩ hu
theorem call_tups {prog : Program} {w : World} {E Q : Value → Shared → Prop} {l b : Addr} {us ws : Array Value} {e r : Nat → Bool} (hl : s.heap.IsTuple l us) (hb : s.heap.IsTuple b ws)
    (he : ∀ j (x1 : j < us.size) (x2 : j < ws.size), EqAt A.in1 s us[j] ws[j] (e j)) (hr : ∀ j (x1 : j < us.size) (x2 : j < ws.size), (∀ k, k < j → e k = true) → e j = false → RcLt A.in1 s us[j] ws[j] (r j))
    (h : Q (.bool (firstLt e r (decide (us.size < ws.size)) (List.range (min us.size ws.size)))) s) : wpAny (model prog w) A (call (.builtin "tuple.__lt__") [.ref l, .ref b]) Q E s := by
  obtain ⟨⟨c1, d1, x1, t1⟩, o1, h1, n1, k1⟩ := id hl
  obtain ⟨⟨c2, d2, x2, t2⟩, o2, h2, n2, k2⟩ := id hb
  simp only at h1 k1 h2 k2
  subst h1 k1 h2 k2
  exact call_meets F.slot_tuple_lt ⟨_, o1, rfl⟩ F.entry_tuple_lt (F.args_tuple_lt_2 _ _) (tup_lt1 l b us ws n1 n2 d1 d2 t1 t2 e r) ⟨⟨o1, o2⟩, he, hr, h⟩
end
/-! ### data that can be asked for their order -/
mutual
def okLt : PyData → PyData → Bool
  | .bool _, .bool _ => true
  | .int _, .int _ => true
  | .str _, .str _ => true
  | .tuple xs, .tuple ys => okAll xs ys
  | _, _ => false
def okAll : List PyData → List PyData → Bool
  | x :: xs, y :: ys => if PyData.eqv x y = true then okAll xs ys else okLt x y
  | [], _ => true
  | _ :: _, [] => true
end
mutual
def ltD : PyData → PyData → Bool
  | .bool a, .bool b => decide (b2i a < b2i b)
  | .int a, .int b => decide (a < b)
  | .str x, .str y => decide (x.cps.toList < y.cps.toList)
  | .tuple xs, .tuple ys => ltAll xs ys
  | _, _ => false
def ltAll : List PyData → List PyData → Bool
  | x :: xs, y :: ys => if PyData.eqv x y = true then ltAll xs ys else ltD x y
  | [], _ :: _ => true
  | [], [] => false
  | _ :: _, [] => false
end
theorem okAll_at : ∀ (xs ys : List PyData) (j : Nat), okAll xs ys = true → (∀ k, k < j → pairEq xs ys k = true) → pairEq xs ys j = false → j < xs.length → j < ys.length → okLt (xs.getD j .none) (ys.getD j .none) = true
  | [], _, _, _, _, _, h, _ => absurd h (Nat.not_lt_zero _)
  | _ :: _, [], _, _, _, _, _, h => absurd h (Nat.not_lt_zero _)
  | x :: xs, y :: ys, 0, h, _, q, _, _ => by
    have q' : PyData.eqv x y = false := q
    simp only [okAll, q', Bool.false_eq_true, if_false] at h
    exact h
  | x :: xs, y :: ys, j + 1, h, hk, q, h1, h2 => by
    have q' : PyData.eqv x y = true := hk 0 (Nat.succ_pos j)
    simp only [okAll, q', if_true] at h
    exact okAll_at xs ys j h (fun k hkj => hk (k + 1) (Nat.succ_lt_succ hkj)) q (Nat.lt_of_succ_lt_succ h1) (Nat.lt_of_succ_lt_succ h2)
theorem first_all : ∀ (xs ys : List PyData), firstLt (pairEq xs ys) (fun j => ltD (xs.getD j .none) (ys.getD j .none)) (decide (xs.length < ys.length)) (List.range (min xs.length ys.length)) = ltAll xs ys
  | [], [] => rfl
  | [], _ :: _ => by simp [firstLt, ltAll]
  | _ :: _, [] => by simp [firstLt, ltAll]
  | x :: xs, y :: ys => by
    have ih := first_all xs ys
    rw [show min (x :: xs).length (y :: ys).length = min xs.length ys.length + 1 by rw [List.length_cons, List.length_cons]; omega,
      show decide ((x :: xs).length < (y :: ys).length) = decide (xs.length < ys.length) by rw [List.length_cons, List.length_cons]; exact decide_eq_decide.mpr (by omega), List.range_succ_eq_map]
    cases q : PyData.eqv x y with
    | true =>
      rw [firstLt_yes (show pairEq (x :: xs) (y :: ys) 0 = true from q), firstLt_map]
      simp only [ltAll, q, if_true]
      exact ih
    | false =>
      rw [firstLt_no (show pairEq (x :: xs) (y :: ys) 0 = false from q)]
      simp only [ltAll, q, Bool.false_eq_true, if_false]
      rfl
mutual
theorem rc_ok : ∀ (da db : PyData) (A : Around) (s : Shared) (a b : Value) (as bs : List Addr), Reads s.heap a da as → Reads s.heap b db bs → da.canLay0 = true → db.canLay0 = true → okLt da db = true → A.units + min da.depth db.depth < cLine → RcLt A s a b (ltD da db)
  | .bool x, .bool y, A, s, a, b, as, bs, ra, rb, _, _, _, _ => by
    cases ra
    cases rb
    exact fun prog w E Q hq => lt_bool hq
  | .int x, .int y, A, s, a, b, as, bs, ra, rb, _, _, _, _ => by
    cases ra
    cases rb
    exact fun prog w E Q hq => P.lt_int hq
  | .str x, .str y, A, s, a, b, as, bs, ra, rb, _, _, _, _ => by
    cases ra
    cases rb
    exact fun prog w E Q hq => P.lt_str hq
  | .tuple xs, .tuple ys, A, s, a, b, as, bs, ra, rb, la, lb, h, hu => by
    have hok : okAll xs ys = true := by simpa [okLt] using h
    have la' : PyData.canLayAll0 xs = true := by simpa [PyData.canLay0] using la
    have lb' : PyData.canLayAll0 ys = true := by simpa [PyData.canLay0] using lb
    cases ra with
    | @tuple l o us n _ as₁ h1 h2 h3 h4 =>
      cases rb with
      | @tuple l' o' ws n' _ bs₁ k1 k2 k3 k4 =>
        have n1 : us.size = xs.length := by simpa using ReadsAll.length _ _ _ h4
        have n2 : ws.size = ys.length := by simpa using ReadsAll.length _ _ _ k4
        show RcLt A s (.ref l) (.ref l') (ltAll xs ys)
        rw [← first_all xs ys, ← n1, ← n2]
        refine rc_tups ⟨_, h1, h2, _, h3⟩ ⟨_, k1, k2, _, k3⟩ (room_here hu) (fun j j1 j2 => ?_) fun j j1 j2 hk hj => ?_
        · have := eqAt_readsAll xs ys A.in1 s us.toList ws.toList _ _ h4 k4 la' lb' (room_in hu) j (by simpa using j1) (by simpa using j2)
          simpa using this
        · have := rc_okAll xs ys A.in1 s us.toList ws.toList _ _ h4 k4 la' lb' (room_in hu) j (by simpa using j1) (by simpa using j2) (okAll_at xs ys j hok hk hj (by omega) (by omega))
          simpa using this
  | .none, _, _, _, _, _, _, _, _, _, _, _, h, _ => absurd h (by simp [okLt])
  | .list _, _, _, _, _, _, _, _, _, _, _, _, h, _ => absurd h (by simp [okLt])
  | .dict _, _, _, _, _, _, _, _, _, _, _, _, h, _ => absurd h (by simp [okLt])
  | .bool _, .none, _, _, _, _, _, _, _, _, _, _, h, _ => absurd h (by simp [okLt])
  | .bool _, .int _, _, _, _, _, _, _, _, _, _, _, h, _ => absurd h (by simp [okLt])
  | .bool _, .str _, _, _, _, _, _, _, _, _, _, _, h, _ => absurd h (by simp [okLt])
  | .bool _, .list _, _, _, _, _, _, _, _, _, _, _, h, _ => absurd h (by simp [okLt])
  | .bool _, .tuple _, _, _, _, _, _, _, _, _, _, _, h, _ => absurd h (by simp [okLt])
  | .bool _, .dict _, _, _, _, _, _, _, _, _, _, _, h, _ => absurd h (by simp [okLt])
  | .int _, .none, _, _, _, _, _, _, _, _, _, _, h, _ => absurd h (by simp [okLt])
  | .int _, .bool _, _, _, _, _, _, _, _, _, _, _, h, _ => absurd h (by simp [okLt])
  | .int _, .str _, _, _, _, _, _, _, _, _, _, _, h, _ => absurd h (by simp [okLt])
  | .int _, .list _, _, _, _, _, _, _, _, _, _, _, h, _ => absurd h (by simp [okLt])
  | .int _, .tuple _, _, _, _, _, _, _, _, _, _, _, h, _ => absurd h (by simp [okLt])
  | .int _, .dict _, _, _, _, _, _, _, _, _, _, _, h, _ => absurd h (by simp [okLt])
  | .str _, .none, _, _, _, _, _, _, _, _, _, _, h, _ => absurd h (by simp [okLt])
  | .str _, .bool _, _, _, _, _, _, _, _, _, _, _, h, _ => absurd h (by simp [okLt])
  | .str _, .int _, _, _, _, _, _, _, _, _, _, _, h, _ => absurd h (by simp [okLt])
  | .str _, .list _, _, _, _, _, _, _, _, _, _, _, h, _ => absurd h (by simp [okLt])
  | .str _, .tuple _, _, _, _, _, _, _, _, _, _, _, h, _ => absurd h (by simp [okLt])
  | .str _, .dict _, _, _, _, _, _, _, _, _, _, _, h, _ => absurd h (by simp [okLt])
  | .tuple _, .none, _, _, _, _, _, _, _, _, _, _, h, _ => absurd h (by simp [okLt])
  | .tuple _, .bool _, _, _, _, _, _, _, _, _, _, _, h, _ => absurd h (by simp [okLt])
  | .tuple _, .int _, _, _, _, _, _, _, _, _, _, _, h, _ => absurd h (by simp [okLt])
  | .tuple _, .str _, _, _, _, _, _, _, _, _, _, _, h, _ => absurd h (by simp [okLt])
  | .tuple _, .list _, _, _, _, _, _, _, _, _, _, _, h, _ => absurd h (by simp [okLt])
  | .tuple _, .dict _, _, _, _, _, _, _, _, _, _, _, h, _ => absurd h (by simp [okLt])
theorem rc_okAll : ∀ (xs ys : List PyData) (A : Around) (s : Shared) (vs ws : List Value) (as bs : List Addr), ReadsAll s.heap vs xs as → ReadsAll s.heap ws ys bs → PyData.canLayAll0 xs = true → PyData.canLayAll0 ys = true → A.units + min (PyData.depthAll xs) (PyData.depthAll ys) < cLine →
    ∀ j (h1 : j < vs.length) (h2 : j < ws.length), okLt (xs.getD j .none) (ys.getD j .none) = true → RcLt A s vs[j] ws[j] (ltD (xs.getD j .none) (ys.getD j .none))
  | [], _, _, _, _, _, _, _, ra, _, _, _, _, j, h1, _, _ => by
    cases ra
    exact absurd h1 (Nat.not_lt_zero _)
  | _ :: _, [], _, _, _, _, _, _, _, rb, _, _, _, j, _, h2, _ => by
    cases rb
    exact absurd h2 (Nat.not_lt_zero _)
  | x :: xs, y :: ys, A, s, _, _, _, _, ra, rb, la, lb, hu, j, h1, h2, hok => by
    have la' : x.canLay0 = true ∧ PyData.canLayAll0 xs = true := by simpa [PyData.canLayAll0] using la
    have lb' : y.canLay0 = true ∧ PyData.canLayAll0 ys = true := by simpa [PyData.canLayAll0] using lb
    cases ra with
    | cons r rs =>
      cases rb with
      | cons r' rs' =>
        cases j with
        | zero => exact rc_ok x y A s _ _ _ _ r r' la'.1 lb'.1 hok (room_head hu)
        | succ j => exact rc_okAll xs ys A s _ _ _ _ rs rs' la'.2 lb'.2 (room_tail hu) j (Nat.lt_of_succ_lt_succ h1) (Nat.lt_of_succ_lt_succ h2) hok
end
end SK
namespace SK
open PySem PySem.SeqAt PySem.W PySem.Calls PyProof.Rows
mutual
theorem alike_self : ∀ d : PyData, d.canLay0 = true → alike d d = true
  | .none, _ => rfl
  | .bool _, _ => rfl
  | .int _, _ => rfl
  | .str _, _ => rfl
  | .list xs, h => by
    show alikeAll xs xs = true
    exact alike_selfs xs (by simpa [PyData.canLay0] using h)
  | .tuple xs, h => by
    show alikeAll xs xs = true
    exact alike_selfs xs (by simpa [PyData.canLay0] using h)
  | .dict _, h => absurd h (by simp [PyData.canLay0])
theorem alike_selfs : ∀ ds : List PyData, PyData.canLayAll0 ds = true → alikeAll ds ds = true
  | [], _ => rfl
  | d :: ds, h => by
    have h' : d.canLay0 = true ∧ PyData.canLayAll0 ds = true := by simpa [PyData.canLayAll0] using h
    show (alike d d && alikeAll ds ds) = true
    rw [alike_self d h'.1, alike_selfs ds h'.2]
    rfl
end
mutual
theorem reads_one {h : Heap} : ∀ (d d' : PyData) (v : Value) (as as' : List Addr), d.canLay0 = true → d'.canLay0 = true → Reads h v d as → Reads h v d' as' → d = d'
  | .none, _, _, _, _, _, _, r, r' => by
    cases r
    cases r'
    rfl
  | .bool _, _, _, _, _, _, _, r, r' => by
    cases r
    cases r'
    rfl
  | .int _, _, _, _, _, _, _, r, r' => by
    cases r
    cases r'
    rfl
  | .str _, _, _, _, _, _, _, r, r' => by
    cases r
    cases r'
    rfl
  | .list xs, d', _, _, _, l, l', r, r' => by
    cases r with
    | list h1 h2 h3 h4 =>
      cases r' with
      | list k1 k2 k3 k4 =>
        rw [h1] at k1
        cases k1
        rw [h3] at k3
        cases k3
        rw [reads_ones xs _ _ _ _ (by simpa [PyData.canLay0] using l) (by simpa [PyData.canLay0] using l') h4 k4]
      | tuple k1 k2 k3 k4 =>
        rw [h1] at k1
        cases k1
        rw [h2] at k2
        exact absurd k2 (by simp)
      | dict k1 => exact absurd l' (by simp [PyData.canLay0])
  | .tuple xs, d', _, _, _, l, l', r, r' => by
    cases r with
    | tuple h1 h2 h3 h4 =>
      cases r' with
      | tuple k1 k2 k3 k4 =>
        rw [h1] at k1
        cases k1
        rw [h3] at k3
        cases k3
        rw [reads_ones xs _ _ _ _ (by simpa [PyData.canLay0] using l) (by simpa [PyData.canLay0] using l') h4 k4]
      | list k1 k2 k3 k4 =>
        rw [h1] at k1
        cases k1
        rw [h2] at k2
        exact absurd k2 (by simp)
      | dict k1 => exact absurd l' (by simp [PyData.canLay0])
  | .dict _, _, _, _, _, l, _, _, _ => absurd l (by simp [PyData.canLay0])
theorem reads_ones {h : Heap} : ∀ (ds ds' : List PyData) (vs : List Value) (as as' : List Addr), PyData.canLayAll0 ds = true → PyData.canLayAll0 ds' = true → ReadsAll h vs ds as → ReadsAll h vs ds' as' → ds = ds'
  | [], _, _, _, _, _, _, r, r' => by
    cases r
    cases r'
    rfl
  | d :: ds, _, _, _, _, l, l', r, r' => by
    cases r with
    | cons h1 h2 =>
      cases r' with
      | cons k1 k2 =>
        have q : d.canLay0 = true ∧ PyData.canLayAll0 ds = true := by simpa [PyData.canLayAll0] using l
        have q' := l'
        simp only [PyData.canLayAll0, Bool.and_eq_true] at q'
        rw [reads_one d _ _ _ _ q.1 q'.1 h1 k1, reads_ones ds _ _ _ _ q.2 q'.2 h2 k2]
end
/-! ### keys that are tuples, ordered by tokens -/
abbrev Tok' := PyData → List (Int ⊕ List Nat)
noncomputable def kk (h : Heap) (ds : List PyData) (tok : Tok') : PyProof.Rows.KeyKind where
  toKeyOrd := listOrd itemOrd
  keyOf v := open Classical in if q : ∃ d, d ∈ ds ∧ ∃ as, Reads h v d as then some (tok q.choose) else none
  dflt := ([] : List (Int ⊕ List Nat))
/-- the keys are tuples that can be asked for their order, and the tokens tell it -/
structure Keys (ds : List PyData) (tok : Tok') : Prop where
  lay : ∀ d ∈ ds, d.canLay0 = true
  tup : ∀ d ∈ ds, ∃ xs, d = .tuple xs
  ok : ∀ d ∈ ds, ∀ d' ∈ ds, okLt d d' = true
  lt : ∀ d ∈ ds, ∀ d' ∈ ds, ltD d d' = PyProof.Rows.lexLt itemOrd (tok d) (tok d')
  ty : ∀ x r y t, PyData.tuple (x :: r) ∈ ds → PyData.tuple (y :: t) ∈ ds → dataType x = dataType y
theorem kk_some {h : Heap} {ds : List PyData} {tok : Tok'} (hl : ∀ d ∈ ds, d.canLay0 = true) {v : Value} {d : PyData} {as : List Addr} (hd : d ∈ ds) (r : Reads h v d as) : (kk h ds tok).keyOf v = some (tok d) := by
  have q : ∃ d, d ∈ ds ∧ ∃ as, Reads h v d as := ⟨d, hd, as, r⟩
  have e : (kk h ds tok).keyOf v = some (tok q.choose) := dif_pos q
  obtain ⟨h1, as', h2⟩ := q.choose_spec
  rw [e, reads_one _ _ _ _ _ (hl _ h1) (hl _ hd) h2 r]
theorem kk_inv {h : Heap} {ds : List PyData} {tok : Tok'} {v : Value} {k : List (Int ⊕ List Nat)} (e : (kk h ds tok).keyOf v = some k) : ∃ d as, d ∈ ds ∧ Reads h v d as ∧ k = tok d := by
  by_cases q : ∃ d, d ∈ ds ∧ ∃ as, Reads h v d as
  · have e' : (kk h ds tok).keyOf v = some (tok q.choose) := dif_pos q
    obtain ⟨h1, as', h2⟩ := q.choose_spec
    rw [e'] at e
    exact ⟨_, as', h1, h2, (Option.some.inj e).symm⟩
  · have e' : (kk h ds tok).keyOf v = none := dif_neg q
    rw [e'] at e
    cases e
section
variable {prog : Program} {w : World} {A : Around} {E : Value → Shared → Prop} {s : Shared}
theorem one_ok {f : Bool} {da db : PyData} {a b : Value} {as bs : List Addr} {Q : Bool → Shared → Prop} (ra : Reads s.heap a da as) (rb : Reads s.heap b db bs) (la : da.canLay0 = true) (lb : db.canLay0 = true) (h : okLt da db = true)
    (hu : A.units + min da.depth db.depth < cLine) (hq : Q (ltD da db) s) : wpAny (model prog w) A (oneLt' f a b) Q E s := by
  cases f with
  | false =>
    rw [oneLt'_eq]
    simp only [Bool.false_eq_true, if_false]
    exact wpAny_bind (rc_ok da db A s a b as bs ra rb la lb h hu prog w E _ (wpAny_truthy_bool hq))
  | true =>
    cases da <;> cases db <;> first | (simp [okLt] at h; done) | skip
    · cases ra
      cases rb
      exact oneLt_bool hq
    · cases ra
      cases rb
      exact oneLt_int hq
    · cases ra
      cases rb
      exact oneLt_str hq
    · rename_i xs ys
      have hok : okAll xs ys = true := by simpa [okLt] using h
      have la' : PyData.canLayAll0 xs = true := by simpa [PyData.canLay0] using la
      have lb' : PyData.canLayAll0 ys = true := by simpa [PyData.canLay0] using lb
      cases ra with
      | @tuple l o us n _ as₁ h1 h2 h3 h4 =>
        cases rb with
        | @tuple l' o' ws n' _ bs₁ k1 k2 k3 k4 =>
          have n1 : us.size = xs.length := by simpa using ReadsAll.length _ _ _ h4
          have n2 : ws.size = ys.length := by simpa using ReadsAll.length _ _ _ k4
          have hq : Q (ltAll xs ys) s := hq
          rw [← first_all xs ys, ← n1, ← n2] at hq
          rw [oneLt'_eq]
          simp only [if_true]
          refine wpAny_bind (wpAny_cRoomFor (room_here hu) ?_)
          refine wpAny_bind (wpAny_callSpecialIfBound?_slot (T := "tuple") ⟨_, h1, h2⟩ F.slot_tuple_lt (call_tups (e := pairEq xs ys) (r := fun j => ltD (xs.getD j .none) (ys.getD j .none)) ⟨_, h1, h2, _, h3⟩ ⟨_, k1, k2, _, k3⟩ (fun j j1 j2 => ?_) (fun j j1 j2 hk hj => ?_) ?_))
          · have := eqAt_readsAll xs ys A.in1 s us.toList ws.toList _ _ h4 k4 la' lb' (room_in hu) j (by simpa using j1) (by simpa using j2)
            simpa using this
          · have := rc_okAll xs ys A.in1 s us.toList ws.toList _ _ h4 k4 la' lb' (room_in hu) j (by simpa using j1) (by simpa using j2) (okAll_at xs ys j hok hk hj (by omega) (by omega))
            simpa using this
          · exact wpAny_truthy_bool hq
theorem katLex_ok {b fin : Bool} {Q : Bool → Shared → Prop} : ∀ (xs ys : List PyData) (i : Nat) (vs ws : List Value) (as bs : List Addr), ReadsAll s.heap vs xs as → ReadsAll s.heap ws ys bs → PyData.canLayAll0 xs = true → PyData.canLayAll0 ys = true → okAll xs ys = true →
    A.units + min (PyData.depthAll xs) (PyData.depthAll ys) < cLine → fin = decide (xs.length < ys.length) → Q (ltAll xs ys) s → KatLex prog w A b fin Q (vs.zip ws) i s
  | [], [], i, _, _, _, _, ra, rb, _, _, _, _, hf, hq => by
    cases ra
    cases rb
    have e : fin = false := by rw [hf]; rfl
    subst e
    exact kat_nil hq
  | [], y :: ys, i, _, _, _, _, ra, rb, _, _, _, _, hf, hq => by
    cases ra
    have e : fin = true := by rw [hf]; exact decide_eq_true (Nat.succ_pos _)
    subst e
    rw [List.zip_nil_left]
    exact kat_nil hq
  | x :: xs, [], i, _, _, _, _, ra, rb, _, _, _, _, hf, hq => by
    cases rb
    have e : fin = false := by rw [hf]; exact decide_eq_false (Nat.not_lt_zero _)
    subst e
    rw [List.zip_nil_right]
    exact kat_nil hq
  | x :: xs, y :: ys, i, _, _, _, _, ra, rb, la, lb, h, hu, hf, hq => by
    have la' : x.canLay0 = true ∧ PyData.canLayAll0 xs = true := by simpa [PyData.canLayAll0] using la
    have lb' : y.canLay0 = true ∧ PyData.canLayAll0 ys = true := by simpa [PyData.canLayAll0] using lb
    have hf' : fin = decide (xs.length < ys.length) := by
      rw [hf]
      simp only [List.length_cons, Nat.add_lt_add_iff_right]
    cases ra with
    | cons r rs =>
      cases rb with
      | cons r' rs' =>
        rw [List.zip_cons_cons]
        refine kat_cons (eqAt_reads x y A s _ _ _ _ r r' la'.1 lb'.1 (room_head hu) prog w _ _ ?_)
        cases hx : PyData.eqv x y with
        | true =>
          simp only [okAll, ltAll, hx, if_true] at h hq
          exact kat_yes (katLex_ok xs ys (i + 1) _ _ _ _ rs rs' la'.2 lb'.2 h (room_tail hu) hf' hq)
        | false =>
          simp only [okAll, ltAll, hx, Bool.false_eq_true, if_false] at h hq
          exact kat_no (one_ok r r' la'.1 lb'.1 h (room_head hu) hq)
end
end SK
namespace SK
open PySem PySem.SeqAt PySem.W PySem.Calls PyProof.Rows
section
variable {prog : Program} {w : World} {A : Around} {E : Value → Shared → Prop} {s : Shared}
/-- what firstOfTuple gives, key by key -/
theorem kFirsts : ∀ {vs : List Value} {ds : List PyData}, EachIs (fun v d => ∃ as, Reads s.heap v d as) vs ds → (∀ d ∈ ds, ∃ xs, d = PyData.tuple xs) → ∃ os : List (Option Value), os.length = vs.length ∧
    (∀ (M : Model) (A : Around) (E : Value → Shared → Prop) (Q : List (Option Value) → Shared → Prop), Q os s → wpAny M A (vs.mapM firstOfTuple') Q E s) ∧ ∀ (i : Nat) (o : Option Value), os[i]? = some o → ∃ xs, ds[i]? = some (PyData.tuple xs) ∧ (o = none ↔ xs = [])
  | _, _, .nil, _ => ⟨[], rfl, fun M A E Q h => by rw [List.mapM_nil]; exact wpAny_pure h, fun i o h => by cases h⟩
  | _, _, .cons (a := v) (b := d) (as := vs) (bs := ds) ⟨as, r⟩ t, ht => by
    obtain ⟨os, h1, h2, h3⟩ := kFirsts t fun d hd => ht d (List.mem_cons_of_mem _ hd)
    obtain ⟨xs, rfl⟩ := ht d List.mem_cons_self
    cases r with
    | @tuple a o us n _ _ ho hc hd hr =>
      refine ⟨us[0]? :: os, by rw [List.length_cons, List.length_cons, h1], fun M A E Q h => ?_, fun i o' e => ?_⟩
      · rw [List.mapM_cons]
        refine wpAny_bind ?_
        rw [kas_first_eq]
        refine wpAny_bind (Looks.here (show Looks M s.heap (typeOf (.ref a)) o.cls from (Looks.ld ho).andThen .now) ?_)
        rw [hc, if_neg (by first | decide | simp)]
        refine wpAny_bind (listItems_at ho hd (wpAny_pure ?_))
        exact wpAny_bind (h2 M A E (fun bs s' => wpAny M A (pure (us[0]? :: bs)) Q E s') (wpAny_pure h))
      · cases i with
        | zero =>
          have e' : o' = us[0]? := (Option.some.inj e).symm
          refine ⟨xs, rfl, ?_⟩
          rw [e', ← Array.getElem?_toList]
          cases q : us.toList with
          | nil =>
            rw [q] at hr
            cases hr
            simp
          | cons f fr =>
            rw [q] at hr
            cases hr
            simp
        | succ i => exact h3 i o' e
theorem kFulls : ∀ {vs : List Value} {ds : List PyData}, EachIs (fun v d => ∃ as, Reads s.heap v d as) vs ds → (∀ d ∈ ds, ∃ x r, d = .tuple (x :: r)) → ∃ fs, KatTups s.heap vs fs ∧ fs.length = vs.length ∧ ∀ f ∈ fs, ∃ x r as, PyData.tuple (x :: r) ∈ ds ∧ Reads s.heap f x as :=
  fun e h => each_katTups e h
theorem kKinds {vs : List Value} {ds : List PyData} (e : EachIs (fun v d => ∃ as, Reads s.heap v d as) vs ds) (ht : ∀ d ∈ ds, ∃ xs, d = PyData.tuple xs) (hn : PyData.tuple [] ∈ ds) (h2 : 2 ≤ vs.length) :
    ∃ kd : SortKind, (kd = general' ∨ kd = oneType') ∧ ∀ (E : Value → Shared → Prop) (Q : SortKind → Shared → Prop), Q kd s → wpAny (model prog w) A (keyKind' vs.toArray) Q E s := by
  obtain ⟨os, l1, l2, l3⟩ := kFirsts e ht
  have no : none ∈ os := by
    obtain ⟨i, hi⟩ := List.mem_iff_getElem?.mp hn
    have li : i < os.length := by
      have := (List.getElem?_eq_some_iff.mp hi).1
      rw [l1, e.length]
      exact this
    obtain ⟨xs, e1, e2⟩ := l3 i os[i] (List.getElem?_eq_getElem li)
    rw [hi] at e1
    cases e1
    rw [← e2.mpr rfl]
    exact List.getElem_mem li
  have nall : (os.toArray.all fun x => x.isSome) = false := by
    rw [List.all_toArray]
    exact List.all_eq_false.mpr ⟨none, no, by simp⟩
  refine ⟨if (os.toArray[0]?.bind id).isSome = true then general' else oneType', by split <;> simp, fun E Q hq => ?_⟩
  rw [kat_kind_eq, List.mapM_toArray, map_eq_pure_bind]
  refine wpAny_bind (wpAny_bind (l2 _ _ _ _ (wpAny_pure ?_)))
  rw [if_neg (by rw [nall]; decide)]
  by_cases hg : (os.toArray[0]?.bind id).isSome = true
  · rw [if_pos hg] at hq ⊢
    exact wpAny_pure hq
  · rw [if_neg hg] at hq ⊢
    rw [oneTypeOnly'_eq, List.mapM_toArray, map_eq_pure_bind]
    have hT : ∀ v ∈ vs, Looks (model prog w) s.heap (typeOf v) (Value.type "tuple") := fun v hv => by
      obtain ⟨d, hd, as, r⟩ := e.left v hv
      obtain ⟨xs, rfl⟩ := ht d hd
      exact looks_reads r
    refine wpAny_bind (wpAny_bind (wpAny_bind (kas_mapM (r := Value.type "tuple") _ (fun v hv Q' hq => (hT v hv).here hq) (wpAny_pure ?_))))
    obtain ⟨v₁, r, rfl⟩ : ∃ v₁ r, vs = v₁ :: r := by
      cases vs with
      | nil => exact absurd h2 (by simp)
      | cons a b => exact ⟨a, b, rfl⟩
    have hall : ((List.map (fun _ => Value.type "tuple") (v₁ :: r)).toArray.all fun x => x == Value.type "tuple") = true := by
      simp only [List.all_toArray, List.all_map, List.all_eq_true]
      intro _ _
      rfl
    rw [show (List.map (fun _ => Value.type "tuple") (v₁ :: r)).toArray[0]? = some (Value.type "tuple") by simp]
    simp only [hall, if_true]
    exact wpAny_pure (wpAny_pure hq)
/-- such keys can be sorted -/
theorem sorts_at {vs : List Value} {ds : List PyData} {tok : Tok'} (K : Keys ds tok) (e : EachIs (fun v d => ∃ as, Reads s.heap v d as) vs ds) (hu : ∀ d, d ∈ ds → A.units + d.depth < cLine) : SortsAt prog w A s (kk s.heap ds tok) vs := by
  have room : ∀ {d d' : PyData}, d ∈ ds → A.units + min d.depth d'.depth < cLine := fun {d d'} hd => Nat.lt_of_le_of_lt (Nat.add_le_add_left (Nat.min_le_left _ _) _) (hu d hd)
  refine ⟨fun v hv => ?_, ?_⟩
  · obtain ⟨d, hd, as, r⟩ := e.left v hv
    exact ⟨_, kk_some K.lay hd r⟩
  have asked : ∀ (kd : SortKind), (∀ {da db : PyData} {a b : Value} {as bs : List Addr} {E : Value → Shared → Prop} {Q : Bool → Shared → Prop}, da ∈ ds → db ∈ ds → Reads s.heap a da as → Reads s.heap b db bs → Q (ltD da db) s → wpAny (model prog w) A (keyLt' kd a b) Q E s) → H.LtAt prog w A s (kk s.heap ds tok) kd := fun kd h E x y a b Q ha hb hq => by
    obtain ⟨d, as, hd, ra, rfl⟩ := kk_inv ha
    obtain ⟨d', bs, hd', rb, rfl⟩ := kk_inv hb
    refine h hd hd' ra rb ?_
    rw [K.lt d hd d' hd']
    exact hq
  by_cases hn : PyData.tuple [] ∈ ds
  · by_cases h2 : 2 ≤ vs.length
    · obtain ⟨kd, hk, hr⟩ := kKinds (prog := prog) (w := w) (A := A) e K.tup hn h2
      refine ⟨kd, asked kd fun {da db a b as bs E Q} hd hd' ra rb hq => ?_, fun _ E Q hq => hr E Q hq⟩
      rcases hk with rfl | rfl
      · exact one_ok (f := false) ra rb (K.lay _ hd) (K.lay _ hd') (K.ok _ hd _ hd') (room hd) hq
      · exact one_ok (f := true) ra rb (K.lay _ hd) (K.lay _ hd') (K.ok _ hd _ hd') (room hd) hq
    · exact ⟨general', asked _ fun {da db a b as bs E Q} hd hd' ra rb hq => one_ok (f := false) ra rb (K.lay _ hd) (K.lay _ hd') (K.ok _ hd _ hd') (room hd) hq, fun h => absurd h h2⟩
  · have full : ∀ d ∈ ds, ∃ x r, d = .tuple (x :: r) := fun d hd => by
      obtain ⟨xs, rfl⟩ := K.tup d hd
      cases xs with
      | nil => exact absurd hd hn
      | cons x r => exact ⟨x, r, rfl⟩
    obtain ⟨fs, t1, t2, t3⟩ := kFulls e full
    by_cases h2 : 2 ≤ vs.length
    · obtain ⟨f0, fr, ef⟩ : ∃ f0 fr, fs = f0 :: fr := by
        cases fs with
        | nil =>
          rw [List.length_nil] at t2
          omega
        | cons a b => exact ⟨a, b, rfl⟩
      obtain ⟨x0, r0, as0, m0, q0⟩ := t3 f0 (by rw [ef]; exact List.mem_cons_self)
      refine ⟨tuples' (dataType x0 != Value.type "tuple"), asked _ fun {da db a b as bs E Q} hd hd' ra rb hq => ?_, fun _ E Q hq => ?_⟩
      · have hok := K.ok _ hd _ hd'
        have la := K.lay _ hd
        have lb := K.lay _ hd'
        have hr := room (d' := db) hd
        obtain ⟨xs, rfl⟩ := K.tup _ hd
        obtain ⟨ys, rfl⟩ := K.tup _ hd'
        cases ra with
        | @tuple l o us n _ _ h1 h2 h3 h4 =>
          cases rb with
          | @tuple l' o' ws n' _ _ k1 k2 k3 k4 =>
            have n1 : us.size = xs.length := by simpa using ReadsAll.length _ _ _ h4
            have n2 : ws.size = ys.length := by simpa using ReadsAll.length _ _ _ k4
            exact kat_lt h1 h3 k1 k3 (katLex_ok xs ys 0 _ _ _ _ h4 k4 (by simpa [PyData.canLay0] using la) (by simpa [PyData.canLay0] using lb) (by simpa [okLt] using hok) (by have q := room_in hr; omega) (by rw [n1, n2]) hq)
      · refine kat_kind (T := dataType x0) t1 (by omega) (fun f hf => ?_) (beq_self_eq_true _) hq
        obtain ⟨x, r, as, m1, m2⟩ := t3 f hf
        rw [K.ty x0 r0 x r m0 m1]
        exact looks_reads m2
    · exact ⟨general', asked _ fun {da db a b as bs E Q} hd hd' ra rb hq => one_ok (f := false) ra rb (K.lay _ hd) (K.lay _ hd') (K.ok _ hd _ hd') (room hd) hq, fun h => absurd h h2⟩
end
end SK
namespace SK
open PySem PySem.SeqAt PySem.W PySem.Calls PyProof.Rows
/-- keys that can be sorted, the tokens tell their order -/
structure KeysG (ds : List PyData) (tok : Tok') : Prop where
  lay : ∀ d ∈ ds, d.canLay0 = true
  sorts : ∀ {prog : Program} {w : World} {A : Around} {s : Shared} {vs : List Value}, EachIs (fun v d => ∃ as, Reads s.heap v d as) vs ds → (∀ d, d ∈ ds → A.units + d.depth < cLine) → SortsAt prog w A s (kk s.heap ds tok) vs
theorem Keys.g {ds : List PyData} {tok : Tok'} (K : Keys ds tok) : KeysG ds tok := ⟨K.lay, fun e hu => sorts_at K e hu⟩
/-- keys that are alike, place by place -/
theorem keysG_alike {ds : List PyData} (lay : ∀ d ∈ ds, d.canLay0 = true) (hal : AllAlike ds) (hk : Sortable ds) : KeysG ds keyToks := ⟨lay, fun e hu => SortsAt.data e hal hk hu⟩
end SK
namespace SK
open PySem PySem.SeqAt PySem.W PySem.Calls PyProof.Rows L2
/-! ### sorted(xs, key=f), f a def of the text -/
theorem dp_same {K : PySem.W.Frag} {H H' : Hp} (s : ∀ b o, H b = some o → H' b = some o) : ∀ (d : PyData) (v : V), Dp K H v d → Dp K H' v d
  | .none, _, h => by
    cases h
    exact .non
  | .bool _, _, h => by
    cases h
    exact .bl _
  | .int _, _, h => by
    cases h
    exact .int _
  | .str _, _, h => by
    cases h
    exact .str _
  | .list ds, _, h => by
    cases h with
    | lst h1 h2 =>
      refine .lst ?_ (dp_sames s ds _ h2)
      rcases h1 with (h | ⟨o, h⟩) | h
      · exact .inl (.inl (s _ _ h))
      · exact .inl (.inr ⟨o, s _ _ h⟩)
      · exact .inr h
  | .tuple ds, _, h => by
    cases h with
    | tup h1 h2 =>
      refine .tup ?_ (dp_sames s ds _ h2)
      rcases h1 with (h | ⟨o, h⟩) | h
      · exact .inl (.inl (s _ _ h))
      · exact .inl (.inr ⟨o, s _ _ h⟩)
      · exact .inr h
  | .dict _, _, h => by cases h
where dp_sames {K : PySem.W.Frag} {H H' : Hp} (s : ∀ b o, H b = some o → H' b = some o) : ∀ (ds : List PyData) (vs : List V), DpAll K H vs ds → DpAll K H' vs ds
  | [], _, h => by
    cases h
    exact .nil
  | d :: ds, _, h => by
    cases h with
    | cons h1 h2 => exact .cons (dp_same s d _ h1) (dp_sames s ds _ h2)
/-- the items in the order of their keys -/
def byKey (tok : Tok') (xs : List V) (kz : List PyData) : List V := ((xs.zip kz).mergeSort (sortLe (listOrd itemOrd) false fun b => tok b.2)).map (·.1)
theorem each_zip : ∀ {xs : List V} {vs : List Value} {kz : List PyData}, Vals xs vs → kz.length = xs.length → EachIs (fun v (b : V × PyData) => RelV b.1 v) vs (xs.zip kz)
  | [], _, kz, .nil, _ => by
    rw [List.zip_nil_left]
    exact .nil
  | x :: xs, _, [], _, h => absurd h (by simp)
  | x :: xs, _, k :: kz, .cons r t, h => by
    rw [List.zip_cons_cons]
    exact .cons r (each_zip t (Nat.succ.inj h))
theorem each_snd {R : Value → PyData → Prop} : ∀ {xs : List V} {ks : List Value} {kz : List PyData}, EachIs R ks kz → kz.length = xs.length → EachIs (fun v (b : V × PyData) => R v b.2) ks (xs.zip kz)
  | [], _, [], .nil, _ => .nil
  | _ :: _, _, [], .nil, h => absurd h (by simp)
  | [], _, _ :: _, _, h => absurd h (by simp)
  | x :: xs, _, k :: kz, .cons r t, h => by
    rw [List.zip_cons_cons]
    exact .cons r (each_snd t (Nat.succ.inj h))
theorem vals_each : ∀ {bs : List (V × PyData)} {vs : List Value}, EachIs (fun v (b : V × PyData) => RelV b.1 v) vs bs → Vals (bs.map (·.1)) vs
  | _, _, .nil => .nil
  | _, _, .cons r t => .cons r (vals_each t)
section
variable {X : Cx} {pins : List (Addr × Obj)} {σ : L2.St} {H : Hp} {s : Shared}
theorem each_reads (I : Inv X pins σ H s) : ∀ {kvs : List V} {ks : List Value} {kz : List PyData}, Vals kvs ks → DpAll X.K H kvs kz → EachIs (fun v k => ∃ as, Reads s.heap v k as) ks kz
  | _, _, _, .nil, .nil => .nil
  | _, _, _, .cons r t, .cons h1 h2 => .cons (Dp.reads I _ _ _ h1 r) (each_reads I t h2)
theorem dp_snoc {K : PySem.W.Frag} {v : V} {d : PyData} (h : Dp K H v d) : ∀ {vs : List V} {ds : List PyData}, DpAll K H vs ds → DpAll K H (vs ++ [v]) (ds ++ [d])
  | _, _, .nil => .cons h .nil
  | _, _, .cons a b => .cons a (dp_snoc h b)
theorem dpAll_len {K : PySem.W.Frag} {H : Hp} : ∀ {vs : List V} {ds : List PyData}, DpAll K H vs ds → vs.length = ds.length
  | _, _, .nil => rfl
  | _, _, .cons _ t => congrArg (· + 1) (dpAll_len t)
theorem v_rest {a kS f : Addr} {fd : FuncData} {n : Nat} {sp : Sp} {ps : List Str} {e1 : Nat} {P : PySem.Fin → Shared → Prop} {E : Value → Shared → Prop} {xs : List V} {vs : List Value} {kz : List PyData} {tok : Tok'} {ks0 : Unit}
    (F : FnOk X.prog X.w X.K X.mg X.base CX0 n f fd ps sp) (hr : Room n X.A.in1.in1) (hb : Binds X.K fd ps []) (h1 : ps.length = 1) (K : KeysG kz tok) (I : Inv X pins σ H s) (fa : FpOk X pins H a) (fk : FpOk X pins H kS)
    (nk : s.heap.get? kS = some (seqObj "list" #[] 0)) (na : s.heap.get? a = some (seqObj "list" #[] e1)) (ne : kS ≠ a) (rv : Vals xs vs) (len : kz.length = xs.length) (big : xs.length ≤ sizeLine) (hu : ∀ d, d ∈ kz → X.A.in1.in1.units + d.depth < cLine)
    (call : ∀ (i : Nat) (x : V) (k : PyData), xs[i]? = some x → kz[i]? = some k → ∀ H1, Same H H1 → sp [x] H1 (fun v H2 => Dp X.K H2 v k ∧ Same H1 H2) fun _ _ _ => False)
    (h : ∀ (Hn : Hp) (sn : Shared), Inv X pins σ (upd Hn a (.lst (byKey tok xs kz))) sn → Same H Hn → P (.done (.ret .none)) sn) :
    wpAny (model X.prog X.w) X.A.in1.in1 (ksk_rest a (.ref f) false vs.toArray e1 (.ref kS)) P E s := by
  have lv := rv.length
  let St : Nat → Shared → Prop := fun i s' => ∃ Hi kvs ks c, Inv X pins σ Hi s' ∧ Same H Hi ∧ Hi a = none ∧ Hi kS = none ∧ s'.heap.get? kS = some (seqObj "list" ks c) ∧ s'.heap.get? a = some (seqObj "list" #[] e1) ∧ Vals kvs ks.toList ∧ DpAll X.K Hi kvs (kz.take i)
  have nfs : ∀ b, FpOk X pins H b → b ∉ frs X.stack := fun b fb hb => by
    rcases List.mem_cons.mp (I.stkSub b hb) with z | z
    · exact fb.2.1 z
    · exact fb.2.2.1 z
  unfold ksk_rest
  refine wpAny_bind (wpAny_rule ?_)
  first
    | rw [List.forIn_toArray]
    | (rw [← Array.forIn_toList]; simp only [List.toList_toArray])
    | rw [← Array.forIn_toList]
  refine wpAny_bind (ksk_fold St vs 0 s ⟨H, [], #[], 0, I, fun _ _ e => e, fa.1, fk.1, nk, na, .nil, by rw [List.take_zero]; exact .nil⟩ ?each ?after)
  case each =>
    rintro j v s' hv ⟨Hi, kvs, ks, c, Ii, sm, ha, hk, nk', na', rk, rd⟩
    simp only [Nat.zero_add] at rd ⊢
    have lj : j < xs.length := by
      have := (List.getElem?_eq_some_iff.mp hv).1
      omega
    obtain ⟨u, hu1, rx⟩ := rv.get (i := j) (List.getElem?_eq_getElem lj)
    obtain rfl : u = v := Option.some.inj (hu1.symm.trans hv)
    have hkj : kz[j]? = some kz[j] := List.getElem?_eq_getElem (by omega)
    have run : wpAny (model X.prog X.w) X.A.in1.in1 (PySem.call (.ref f) [u]) (fun r s2 => CE X.stack X.prog X.w Hi s' (fun v H2 => Dp X.K H2 v kz[j] ∧ Same Hi H2) r s2) (fun _ _ => False) s' := by
      refine wpAny_call (codeAny_mono (F.run X.A.in1.in1 X.stack s' Hi ⟨[u], []⟩ ([u] ++ []) [xs[j]] _ _ hr Ii.env0.in1.in1 (hb s' [u] Ii.kIn h1.symm) (.cons rx .nil) (call j _ _ (List.getElem?_eq_getElem lj) hkj Hi sm)) fun r s2 hq => ?_)
      cases r with
      | error e => exact False.elim hq
      | ok fl =>
        cases fl with
        | ret u => exact hq
        | next => exact False.elim hq
        | brk => exact False.elim hq
        | cont => exact False.elim hq
    refine wpAny_bind (wpAny_attempt (wpAny_mono run (fun r s2 he => ?_) fun _ _ z => z.elim))
    obtain ⟨v', H2, os, bare, un, hok, rr, dp, sm2⟩ := he
    have I2 : Inv X pins σ H2 s2 := Ii.call' (ch := []) os un hok bare (by simp)
    have nk2 := un.keep kS _ nk' hk (nfs kS fk) (by simp)
    have na2 := un.keep a _ na' ha (nfs a fa) (by simp)
    have hk2 := un.free kS _ nk' hk (by simp)
    have ha2 := un.free a _ na' ha (by simp)
    try dsimp only
    have sz : ks.size ≤ sizeLine := by
      have q1 : ks.size = kvs.length := by
        rw [← Array.length_toList]
        exact (Vals.length rk).symm
      have q2 : kvs.length = (kz.take j).length := dpAll_len rd
      rw [List.length_take] at q2
      omega
    have szj : ks.size < sizeLine + 1 := Nat.lt_succ_of_le sz
    have same := Heap.SameBut.update s2.heap kS (Obj.mapSeq (·.push r))
    obtain ⟨c2, hc2⟩ : ∃ c2, (s2.heap.update kS (Obj.mapSeq (·.push r))).get? kS = some (seqObj "list" (ks.push r) c2) := ⟨_, get?_update_seq nk2 (·.push r)⟩
    refine wpAny_bind (listUpdate_at nk2 rfl ?_ sz (Nat.le_trans (Nat.le_of_eq (Array.size_push ..)) (Nat.succ_le_succ sz)))
    refine wpAny_pure ⟨rfl, H2, kvs ++ [v'], ks.push r, c2, I2.turned (t' := s2.toks) (fun b o hb e => (same.2 b hb).trans e) hk2 fk.2.1 fk.2.2.2.1 fk.2.2.2.2.1 fk.2.2.2.2.2, sm.trans sm2, ha2, hk2, hc2, (same.2 a ne.symm).trans na2, ?_, ?_⟩
    · rw [show (ks.push r).toList = ks.toList ++ [r] by simp]
      exact Vals.append rk (.cons rr .nil)
    · rw [show kz.take (j + 1) = kz.take j ++ [kz[j]] by rw [List.take_add_one, hkj]; simp]
      exact dp_snoc dp (dp_same.dp_sames sm2 _ _ rd)
  case after =>
    rintro s' ⟨Hn, kvs, ks, c, In, sm, ha, hk, nk', na', rk, rd⟩
    rw [show kz.take (0 + vs.length) = kz from List.take_of_length_le (by omega)] at rd
    have all := each_reads In rk rd
    have sz : ks.size = vs.length := by
      have q := all.length
      rw [Array.length_toList] at q
      omega
    try dsimp only
    refine wpAny_bind (listItems_at nk' rfl ?_)
    refine keyH_end (κ := kk s'.heap kz tok) (h₁ := hideAll s'.heap [kS]) (fun b o _ q => of_hideAll _ q) (hideAll_none _ (List.mem_singleton.mpr rfl)) nk' na' ne (K.sorts all hu) sz (by omega) fun g tk c3 keep hg => ?_
    have out : EachIs (fun v (b : V × PyData) => RelV b.1 v) (sortVals (kk s'.heap kz tok) false ks.toList vs) ((xs.zip kz).mergeSort (sortLe (listOrd itemOrd) false fun b => tok b.2)) :=
      sortVals_each (κ := kk s'.heap kz tok) (fun b : V × PyData => tok b.2) (each_zip rv len) (each_snd (R := fun v d => (kk s'.heap kz tok).keyOf v = some (tok d)) ((each_mem all).mono fun v d q => by
        obtain ⟨⟨as, r⟩, hd⟩ := q
        exact kk_some K.lay hd r) len)
    have ol : (byKey tok xs kz).length ≤ sizeLine := by
      unfold byKey
      rw [List.length_map, List.length_mergeSort, List.length_zip]
      omega
    have kp : ∀ b o, b ≠ a → b ≠ kS → s'.heap.get? b = some o → g.get? b = some o := fun b o x y e => keep b o x (hideAll_get _ e (by simpa using y))
    have tr : ∀ b u, Hn b = some u → b ≠ a ∧ b ≠ kS := fun b u e => ⟨(fun z => by
      rw [z, ha] at e
      cases e), (fun z => by
      rw [z, hk] at e
      cases e)⟩
    have over : ∀ b u, Hn b = some u → upd Hn a (.lst (byKey tok xs kz)) b = some u := fun b u e => by
      rw [upd_ne (tr b u e).1]
      exact e
    refine h Hn _ (In.call (ch := [a, kS]) (g' := s'.gens) (d' := s'.drawn) (t' := tk) (h' := g) ⟨fun b o e n _ x => kp b o (fun z => x (by simp [z])) (fun z => x (by simp [z])) e, fun b o e n _ x => ⟨o.slots, kp b o (fun z => x (by simp [z])) (fun z => x (by simp [z])) e⟩,
      fun b o e n x => by rw [upd_ne (fun z => x (by simp [z]))]; exact n, fun b o e x => ⟨o, kp b o (fun z => x (by simp [z])) (fun z => x (by simp [z])) e⟩, fun b xs e => over b _ e, fun b o u e => over b _ e, fun b ps e => ⟨#[], by rw [Array.append_empty]; exact over b _ e⟩⟩ (fun b u e => ?_) In.bare fun b hb' => ?_) sm
    · by_cases z : b = a
      · subst z
        rw [upd_same] at e
        cases e
        exact ⟨ol, _, c3, vals_each out, hg⟩
      · rw [upd_ne z] at e
        exact (In.hok b u e).stay (fun c v hc q => by
          rcases hc with rfl | hc
          · exact kp _ _ (tr _ _ e).1 (tr _ _ e).2 q
          · exact kp _ _ (tr _ _ hc).1 (tr _ _ hc).2 q) (fun c q => over c _ q) fun c ys q => over c _ q
    · rcases List.mem_cons.mp hb' with rfl | hb'
      · exact ⟨fa.2.2.2.1, fa.2.1, fa.2.2.2.2.1, fa.2.2.2.2.2⟩
      · obtain rfl := List.mem_singleton.mp hb'
        exact ⟨fk.2.2.2.1, fk.2.1, fk.2.2.2.2.1, fk.2.2.2.2.2⟩
/-- the reading of sorted(xs, key=f) -/
def rSortF (K : PySem.W.Frag) (f : Addr) (sp : Sp) : List V → List V → Hp → VK → Prop := fun vs zs H Q => ∃ (l : Addr) (xs : List V) (kz : List PyData) (tok : Tok'), vs = [.ref l] ∧ zs = [.ref f] ∧ SqL K H l xs ∧ kz.length = xs.length ∧ KeysG kz tok ∧ (∀ d ∈ kz, d.depth ≤ 60) ∧
  (∀ (i : Nat) (x : V) (k : PyData), xs[i]? = some x → kz[i]? = some k → ∀ H1, Same H H1 → sp [x] H1 (fun v H2 => Dp K H2 v k ∧ Same H1 H2) fun _ _ _ => False) ∧
  ∀ (p : Addr) (H1 : Hp), H p = none → Same H H1 → H1 p = some (.lst (byKey tok xs kz)) → Q (.ref p) H1
theorem cr_sortF {f : Addr} {fd : FuncData} {n : Nat} {sp : Sp} {ps : List Str} (F : FnOk X.prog X.w X.K X.mg X.base CX0 n f fd ps sp) (hr : Room (n + 2) X.A) (hb : Binds X.K fd ps []) (h1 : ps.length = 1) :
    CallRK X (.builtin "sorted") [Str.ofString "key"] (rSortF X.K f sp) := by
  intro pins s σ H vs zs us ws Q I r rz h
  obtain ⟨l, xs, kz, tok, rfl, rfl, hs, len, K, dep, call, q⟩ := h
  obtain rfl := Vals.ref1 r
  obtain rfl := Vals.ref1 rz
  obtain ⟨its, rv, hl, big⟩ := I.list hs
  have lv := rv.length
  refine sorted_of_sort hl.isList (by omega) (ksk_s1 _ _) (fun _ => ksk_l1 _ _) fun E' => ?_
  show wpAny _ _ (Builtin.«list.sort» ⟨[.ref _], [(Str.ofString "key", .ref f)]⟩) _ _ _
  rw [ksk_t1]
  have ho := copyHeap_at s.heap its
  have la : s.heap.objs.size + 1 < (copyHeap s.heap its).objs.size := Heap.lt_size ho
  obtain ⟨e1, ho1⟩ : ∃ e1, ((copyHeap s.heap its).update (s.heap.objs.size + 1) (Obj.mapSeq fun _ => (#[] : Array Value))).get? (s.heap.objs.size + 1) = some (seqObj "list" #[] e1) := ⟨_, get?_update_seq ho fun _ => #[]⟩
  unfold ksk_tree
  refine wpAny_bind (listItems_at ho rfl (wpAny_bind (listUpdate_at ho rfl ?_ (by rw [List.size_toArray]; omega) (Nat.zero_le _))))
  refine wpAny_bind (seqEpoch_at ho1 rfl (wpAny_bind (wpAny_newTuple ?_ (by show its.length ≤ _; omega))))
  refine wpAny_bind (wpAny_newList ?_ (Nat.zero_le _))
  refine wpAny_holding ?_
  have szS : (((copyHeap s.heap its).update (s.heap.objs.size + 1) (Obj.mapSeq fun _ => (#[] : Array Value))).push (seqObj "tuple" its.toArray 0)).objs.size = (copyHeap s.heap its).objs.size + 1 := by rw [size_push', Heap.size_update]
  have old : ∀ b o, s.heap.get? b = some o → (((((copyHeap s.heap its).update (s.heap.objs.size + 1) (Obj.mapSeq fun _ => (#[] : Array Value))).push (seqObj "tuple" its.toArray 0)).push (seqObj "list" #[] 0))).get? b = some o := fun b o e => sorting_copy_old e
  have fra : H (s.heap.objs.size + 1) = none := I.hok.fresh (Nat.le_succ _)
  have n3 := line63
  refine v_rest (ks0 := ()) (n := n) F hr.in1.in1 hb h1 K (I.kept (t' := s.toks) old) (I.fpOk (Nat.le_succ _) fra)
    (I.fpOk (b := (((copyHeap s.heap its).update (s.heap.objs.size + 1) (Obj.mapSeq fun _ => (#[] : Array Value))).push (seqObj "tuple" its.toArray 0)).objs.size) (by rw [szS]; omega) (I.hok.fresh (by rw [szS]; omega)))
    (Heap.get?_push_size _ rfl) (Heap.get?_push_of_some _ (Heap.get?_push_of_some _ ho1)) (by rw [szS]; exact Nat.ne_of_gt (Nat.lt_succ_of_lt la)) rv len big (fun d hd => ?_) call fun Hn sn In sm => ⟨rfl, ?_⟩
  · have h2 := hr.un
    have h3 := dep d hd
    show X.A.units + 1 + 1 + d.depth < cLine
    omega
  · refine ⟨.ref _, _, In, rfl, q _ _ fra (fun b o e => ?_) upd_same⟩
    rw [upd_ne (ne_of_none e fra)]
    exact sm b o e
end
end SK
namespace DcT
open PySem PySem.Spec PyProof.Rows L2
/-! ### {k: v for target in iter if ..} whose keys are tuples of ints and texts; also as x = {..} -/
section
variable {X : Cx}
theorem setT {pins : List (Addr × Obj)} {σ : L2.St} {H : Hp} {s : Shared} {E : Value → Shared → Prop} {D b : Addr} {kvs : List (List Key × V)} {k : List Key} {v : V} {r : Value} {Q : Unit → Shared → Prop} (hu : X.A.units + 1 < cLine) (I : Inv X pins σ H s) (hD : H D = some (.dT kvs)) (hz : kvs.length < sizeLine)
    (hk : H b = some (.tup (k.map kV))) (rv : RelV v r) (h : ∀ s', Inv X pins σ (upd H D (.dT (putK kvs k v))) s' → Q () s') : wpAny (model X.prog X.w) X.A (dictSet D (.ref b) r) Q E s := by
  obtain ⟨z, ns, xs, rel, dd⟩ := dt_of I.hok hD
  have le : (putK kvs k v).length ≤ sizeLine := by have := length_putK kvs k v; omega
  refine wpAny_dictSet_heap (hsz := by rw [← Paired.length rel]; exact z) (Nat.lt_of_succ_lt hu) (key_of I.hok hk) dd fun h' d2 same => h _ ?_
  obtain ⟨q, es, ep, e1, e2, e3, e4, _, e5⟩ := d2
  refine d_write I (by rw [hD]; exact True.intro) same ⟨q, e1⟩ ⟨le, ns, _, (rel.put k hk rv).keeps fun c ys ec => ?_, q, es, ep, e1, e2, e3, e4, e5⟩
  rw [upd_ne (ne_of ec hD (fun z => nomatch z))]
  exact ec
def tD (wi : TI) (g : TG) (tt : TT) (tk tv : TE) (vs : List Nat) : TE := fun σ H Q => wi σ H fun J H1 => ∀ D, H1 D = none → ∃ W : Nat → Nat → Hp → Prop, (∃ m, W 0 m (upd H1 D (.dT []))) ∧ ∀ i m H, W i m H →
  (J.stop i H ∧ Q (.ref D) H) ∨ (J.go i H ∧ ∃ Nx : Hp → Prop, (∀ H', Nx H' → ∃ m', m' < m ∧ W (i + 1) m' H') ∧ ∀ x H', J.yld i H x H' → g x (wipe σ vs) H' fun σ2 H2 => wipe σ2 vs = wipe σ vs ∧ tt σ2 H2 fun b H3 =>
    if b = true then tk σ2 H3 fun y H4 => tv σ2 H4 fun z H5 => ∃ kvs k c, y = .ref c ∧ H5 c = some (.tup (k.map kV)) ∧ H5 D = some (.dT kvs) ∧ kvs.length < sizeLine ∧ Nx (upd H5 D (.dT (putK kvs k z))) else Nx H3)
theorem core {pins : List (Addr × Obj)} {s : Shared} {σ : L2.St} {H : Hp} {Q : VK} {kx vx tg iter : Expr} {ifs : List Expr} {scope : Scope} {own : List (Str × Nat)} {pos pos' : Pos} {wi : TI} {g : TG} {tt : TT} {tk tv : TE} {use : Option (Value → Sem Unit)} {Qf : Value → Shared → Prop}
    (hu : X.A.units + 1 < cLine) (hc : X.calm = true) (hN : X.N.Nodup) (I : Inv X pins σ H s) (hi : PI X tg iter wi) (ok : BlkOk X.N X.env.scope scope own)
    (hg : ∀ s H C cl fp, PG (X.blk s H scope (compEnvC scope cl C X.env) fp) tg g) (ht : ∀ s H C cl fp, PTs (X.blk s H scope (compEnvC scope cl C X.env) fp) ifs tt)
    (hk : ∀ s H C cl fp, PE (X.blk s H scope (compEnvC scope cl C X.env) fp) kx tk) (he : ∀ s H C cl fp, PE (X.blk s H scope (compEnvC scope cl C X.env) fp) vx tv) (hs : ∀ x, foldedSetIterable iter X.env x = pure x)
    (h : tD wi g tt tk tv (own.map (·.2)) σ H Q)
    (end_ : ∀ D C s' m H', Inv X pins σ H' s' → Q (.ref D) H' → s'.heap.Ns C m → FpOk X pins H' C → compPost (model X.prog X.w) X.A X.xe use Qf (.ref D) C (.ok .next) s') :
    wpAny (model X.prog X.w) X.A (comprehension (.DictComp kx vx [⟨tg, iter, ifs, 0⟩] scope pos) scope X.env pos' newDict false (eval iter X.env) use) Qf X.xe s := by
  have clos : ∀ y ∈ scope.names, y.2 = .free → ∃ c, X.env.cells.lookup y.1 = some c := fun y hy e =>
    (ok.free y hy e).elim (fun k => I.ok.has _ (.inl k)) fun k => I.ok.has _ (.inr k)
  refine wpAny_comprehension_free (use := use) rfl hs (closure_ok clos) ok.kind (fun y hy e => by rw [ok.uniq y hy, e]) (thn (hi.run pins s σ H _ I h) fun xv s1 hx => thn hx fun itv s2 h2 => ?_)
  obtain ⟨it, fp, tn, J, H2, e, I2, T, st2, f2, q⟩ := h2
  subst e
  refine wpAny_newObj_type (newEnv_comp ?_)
  obtain ⟨W, ⟨m0, w0⟩, turn⟩ := q s2.heap.objs.size (I2.hok.fresh (Nat.le_refl _))
  generalize hH3 : upd H2 s2.heap.objs.size (.dT []) = H3 at w0
  have push : ∀ b o, s2.heap.get? b = some o → (s2.heap.push { cls := .type "dict", data := .dict #[] }).get? b = some o := fun b o e => Heap.get?_push_of_some _ e
  have I3 : Inv X pins σ H3 ({ s2 with heap := s2.heap.push { cls := .type "dict", data := .dict #[] } } : Shared) := by
    rw [← hH3]
    exact I2.laid (t' := s2.toks) push (Nat.le_refl _) (dt_empty s2.heap I2.big)
  have f3 : ∀ b ∈ fp, FpOk X pins H3 b ∧ b < (s2.heap.push ({ cls := .type "dict", data := .dict #[] } : Obj)).objs.size := fun b hb => by
    obtain ⟨o, e, _⟩ := T.obj _ _ st2 b hb
    have lt : b < s2.heap.objs.size := Heap.lt_size e
    refine ⟨⟨?_, (f2 b hb).2⟩, by rw [Heap.size_push]; exact Nat.lt_succ_of_lt lt⟩
    rw [← hH3, upd_ne (Nat.ne_of_lt lt)]
    exact (f2 b hb).1
  generalize hs3 : ({ s2 with heap := s2.heap.push { cls := .type "dict", data := .dict #[] } } : Shared) = s3 at I3
  have h3 : s3.heap = s2.heap.push { cls := .type "dict", data := .dict #[] } := by rw [← hs3]
  rw [← h3] at f3
  have st3 : tn 0 s3.heap := T.keep _ _ _ st2 fun b _ o e => by rw [h3]; exact push b o e
  have I4 := block_start I3 ok hN f3
  generalize hcl : cellsFrom (s3.heap.objs.size + 1) scope.names (cloFrom X.env.cells scope.names []) = cl at I4
  have pg := hg s3 H3 s3.heap.objs.size cl fp
  have pt := ht s3 H3 s3.heap.objs.size cl fp
  have pk := hk s3 H3 s3.heap.objs.size cl fp
  have pe := he s3 H3 s3.heap.objs.size cl fp
  show codeAny _ _ (.compStart (.DictComp kx vx [⟨tg, iter, ifs, 0⟩] scope pos) 0 (.ref it) (.ref s2.heap.objs.size) (compEnvC scope cl s3.heap.objs.size X.env)) (compPost (model X.prog X.w) X.A X.xe use Qf (.ref s2.heap.objs.size) s3.heap.objs.size) { s3 with heap := pushCells (s3.heap.push { cls := .type "dict", data := .dict #[] }) scope.names }
  generalize hD : s2.heap.objs.size = D at turn
  generalize hce : compEnvC scope cl s3.heap.objs.size X.env = ce at I4 pg pt pk pe ⊢
  have lo : ce.locals = s3.heap.objs.size := by rw [← hce]; rfl
  generalize hs4 : ({ s3 with heap := pushCells (s3.heap.push { cls := .type "dict", data := .dict #[] }) scope.names } : Shared) = s4 at I4 ⊢
  have st4 : tn 0 s4.heap := T.keep _ _ _ st3 fun b _ o e => by rw [← hs4]; exact pushCells_keeps _ _ _ _ (Heap.get?_push_of_some _ e)
  have fpo : ∀ {σ' : L2.St} {H' : Hp} {s' : Shared}, Inv (X.blk s3 H3 scope ce fp) [] σ' H' s' → (∀ b ∈ fp, H' b = none) → ∀ b ∈ fp, FpOk (X.blk s3 H3 scope ce fp) [] H' b := fun {σ' H' s'} I' hn b hb =>
    ⟨hn b hb, (I'.ok.exf b hb).1, I'.ok.exfs b hb, .inl hb, fun x c e => (I'.ok.exf b hb).2 x c e, fun p hp => absurd (show p ∈ ([] : List (Addr × Obj)) ++ [] from hp) (by simp)⟩
  refine codeAny_compStart_dict ?_ (T.self X.A 0 _ _ _ st4 ?_)
  all_goals
    refine compLoop_anyD (fun n s' => ∃ i H', Inv (X.blk s3 H3 scope ce fp) [] (wipe σ (own.map (·.2))) H' s' ∧ tn i s'.heap ∧ (∀ b ∈ fp, H' b = none) ∧ W i n H') ?_ m0 ⟨0, H3, I4, st4, fun b hb => (f3 b hb).1.1, w0⟩
    rintro n s5 ⟨i, H5, I5, st5, n5, w5⟩
    rcases turn i n H5 w5 with ⟨stop, qq⟩ | ⟨go, Nx, more, step⟩
    · refine thnF (T.done (X.blk s3 H3 scope ce fp) rfl rfl rfl hc i [] s5 _ H5 (fun _ _ => False) I5 (fpo I5 n5) st5 stop) fun r s6 ⟨hr, I6⟩ => ?_
      subst hr
      have I7 : Inv X pins σ H5 s6 := I3.call' (ch := fp) I6.os I6.base I6.hok I6.bare fun b hb => ⟨(f3 b hb).1.2.2.2.1, (f3 b hb).1.2.1, (f3 b hb).1.2.2.2.2.1, (f3 b hb).1.2.2.2.2.2⟩
      obtain ⟨m, hn, _⟩ := I6.loc
      have hn : s6.heap.Ns ce.locals m := hn
      have nC : H5 ce.locals = none := I6.free
      rw [lo] at hn nC
      exact end_ D s3.heap.objs.size s6 m H5 I7 qq hn (I3.fpOk (Nat.le_refl _) nC)
    · refine thnF (T.item (X.blk s3 H3 scope ce fp) rfl rfl rfl hc i [] s5 _ H5 (fun _ _ => False) I5 (fpo I5 n5) st5 go) fun r s6 ⟨u, hr, h6⟩ => ?_
      subst hr
      refine thnF h6 fun _ s7 ⟨x, H7, I7, r7, y7, st7, n7⟩ => ?_
      refine thnF (pg.run _ s7 _ H7 x u _ (I7.pinned (fpo I7 n7) (T.obj _ _ st7)) r7 (step x H7 y7)) fun _ s8 ⟨σ8, H8, I8, hw8, q8⟩ => ?_
      refine thnF (pt.run _ s8 σ8 H8 _ I8 q8) fun b s9 ⟨H9, I9, q9⟩ => ?_
      have back : ∀ {s' : Shared} {H' : Hp}, Inv (X.blk s3 H3 scope ce fp) ([] ++ pinsAt fp s7.heap) σ8 H' s' → Nx H' → ∃ m, m < n ∧ ∃ i H', Inv (X.blk s3 H3 scope ce fp) [] (wipe σ (own.map (·.2))) H' s' ∧ tn i s'.heap ∧ (∀ b ∈ fp, H' b = none) ∧ W i m H' := fun {s' H'} I' nx => by
        obtain ⟨m', lt, w'⟩ := more H' nx
        have held : ∀ b ∈ fp, ∀ o, s7.heap.get? b = some o → s'.heap.get? b = some o ∧ H' b = none := fun b hb o e =>
          let z := I'.pin (b, o) (List.mem_append_right _ (List.mem_append_right _ (mem_pinsAt hb e)))
          ⟨z.1, z.2.1⟩
        refine ⟨m', lt, i + 1, H', (I'.unpinned (pins := [])).weak (by rw [← hw8, wipe_length]) (fun j v e => ?_), T.keep _ _ _ st7 fun b hb o e => (held b hb o e).1, fun b hb => ?_, w'⟩
        · rw [← hw8] at e
          exact (wipe_some e).1
        · obtain ⟨o, e, _⟩ := T.obj _ _ st7 b hb
          exact (held b hb o e).2
      cases b with
      | false =>
        simp only [Bool.false_eq_true, if_false] at q9 ⊢
        exact back I9 q9
      | true =>
        simp only [if_true] at q9 ⊢
        refine thnF (pk.run _ s9 σ8 H9 _ I9 q9) fun z s10 ⟨yk, H10, I10, r10, q10⟩ => ?_
        refine thnF (pe.run _ s10 σ8 H10 _ I10 q10) fun z2 s11 ⟨yv, H11, I11, r11, kvs, k, c, ek, hc11, hD11, hz11, nx⟩ => ?_
        subst ek
        obtain rfl : z = Value.ref c := r10
        exact setT (X := X.blk s3 H3 scope ce fp) hu I11 hD11 hz11 hc11 r11 fun s12 I12 => back I12 nx
/-- as a value -/
theorem pe_dcT {kx vx tg iter : Expr} {ifs : List Expr} {scope : Scope} {own : List (Str × Nat)} {pos : Pos} {wi : TI} {g : TG} {tt : TT} {tk tv : TE} (hu : X.A.units + 1 < cLine) (hc : X.calm = true) (hN : X.N.Nodup) (hi : PI X tg iter wi) (ok : BlkOk X.N X.env.scope scope own)
    (hg : ∀ s H C cl fp, PG (X.blk s H scope (compEnvC scope cl C X.env) fp) tg g) (ht : ∀ s H C cl fp, PTs (X.blk s H scope (compEnvC scope cl C X.env) fp) ifs tt)
    (hk : ∀ s H C cl fp, PE (X.blk s H scope (compEnvC scope cl C X.env) fp) kx tk) (he : ∀ s H C cl fp, PE (X.blk s H scope (compEnvC scope cl C X.env) fp) vx tv) (hs : ∀ x, foldedSetIterable iter X.env x = pure x := by intro _; rfl) :
    PE X (.DictComp kx vx [⟨tg, iter, ifs, 0⟩] scope pos) (tD wi g tt tk tv (own.map (·.2))) := by
  refine ⟨fun pins s σ H Q I h => ?_⟩
  rw [arm_eval_DictComp]
  refine core hu hc hN I hi ok hg ht hk he hs h fun D C s' m H' I' q hn f => ⟨m, hn, fun h'' sb => ?_⟩
  obtain ⟨f0, f1, f2, f3, f4, f5⟩ := f
  exact ⟨.ref D, H', I'.turned (t' := s'.toks) (fun b o hb e => (sb.2 b hb).trans e) f0 f1 f3 f4 f5, rfl, q⟩
/-- x = {..} on one line, x a local -/
theorem ps_setDcT {i : Nat} {y : Str} {py : Pos} {kx vx tg iter : Expr} {ifs : List Expr} {scope : Scope} {own : List (Str × Nat)} {pos spos : Pos} {wi : TI} {g : TG} {tt : TT} {tk tv : TE} (hu : X.A.units + 1 < cLine) (hc : X.calm = true) (hN : X.N.Nodup) (hy : X.N[i]? = some y) (hyl : X.env.scope.names.lookup y = some .local)
    (hsw : swapsWith (.DictComp kx vx [⟨tg, iter, ifs, 0⟩] scope pos) (some (.Name y py)) spos.line X.env = pure true) (hi : PI X tg iter wi) (ok : BlkOk X.N X.env.scope scope own)
    (hg : ∀ s H C cl fp, PG (X.blk s H scope (compEnvC scope cl C X.env) fp) tg g) (ht : ∀ s H C cl fp, PTs (X.blk s H scope (compEnvC scope cl C X.env) fp) ifs tt)
    (hk : ∀ s H C cl fp, PE (X.blk s H scope (compEnvC scope cl C X.env) fp) kx tk) (he : ∀ s H C cl fp, PE (X.blk s H scope (compEnvC scope cl C X.env) fp) vx tv) (hs : ∀ x, foldedSetIterable iter X.env x = pure x := by intro _; rfl) :
    PS X (.Assign [.Name y py] (.DictComp kx vx [⟨tg, iter, ifs, 0⟩] scope pos) spos) (tAsg (tD wi g tt tk tv (own.map (·.2))) (gName i)) := by
  refine ⟨fun pins s σ H D I h => ?_⟩
  rw [exec_Assign_Name_used _ _ _ _ hsw]
  refine wpAny_bind (wpAny_standAt (wpAny_bind ?_))
  show wpAny _ X.A (do let _ ← comprehension (.DictComp kx vx [⟨tg, iter, ifs, 0⟩] scope pos) scope X.env (firstIterPos [⟨tg, iter, ifs, 0⟩] pos) newDict false (eval iter X.env) (some (assign (.Name y py) X.env))) _ _ s
  have h : tD wi g tt tk tv (own.map (·.2)) σ H (fun x H1 => gName i x σ H1 D.nx) := h
  refine wpAny_bind (thn (core (Qf := fun _ s' => SP X pins D .next s') hu hc hN I hi ok hg ht hk he hs h fun L C s' m H' I' q hn f => ?_) fun _ s' hq => wpAny_pure (wpAny_pure hq))
  show wpAny _ _ (assign (.Name y py) X.env (.ref L)) _ _ _
  refine wpAny_assign_Name (store_ok2 (v := V.ref L) I' hN hy (.inl hyl) rfl (fun s2 I2 ⟨a, sb, ha⟩ => ?_) (.inr hyl))
  obtain ⟨f0, f1, f2, f3, f4, f5⟩ := f
  refine ⟨m, hn.sameBut sb (fun e => ha.elim (fun z => f1 (e.trans z)) fun z => f4 y a z e.symm), fun h3 sb3 => ?_⟩
  exact ⟨_, H', I2.turned (t' := s2.toks) (fun b o hb e => (sb3.2 b hb).trans e) f0 f1 f3 f4 f5, q⟩
theorem sw_dict {kx vx : Expr} {gs : List Comprehension} {scope : Scope} {pos py : Pos} {y : Str} {l : Nat} {env : Env} (hk : env.scope.kind = .function) (hy : env.scope.names.lookup y = some .local) (hl : (py.line == pos.line) = true)
    (ha : (scope.names.any fun (n, k) => n == y && (k == .local || k == .cell)) = false) : swapsWith (.DictComp kx vx gs scope pos) (some (.Name y py)) l env = pure true := by
  have ky : env.kindOf y = some .local := hy
  have hb : env.blockKind = .function := by unfold Env.blockKind; rw [hk]; rfl
  unfold swapsWith
  simp only [hb, ky, ha, Expr.pos, hl]
  rfl
/-- over a list that stays -/
theorem dcT_list {K : PySem.W.Frag} {a : Addr} {xs : List V} {g : TG} {tt : TT} {tk tv : TE} {vs : List Nat} {σ : L2.St} {H1 : Hp} {D : Addr} {Qd : Hp → Prop} (Pv : Nat → Hp → Prop) (h0 : Pv 0 (upd H1 D (.dT []))) (hl : ∀ i H, i ≤ xs.length → Pv i H → SqL K H a xs)
    (hs : ∀ i x H, xs[i]? = some x → Pv i H → g x (wipe σ vs) H fun σ2 H2 => wipe σ2 vs = wipe σ vs ∧ tt σ2 H2 fun b H3 =>
      if b = true then tk σ2 H3 fun y H4 => tv σ2 H4 fun z H5 => ∃ kvs k c, y = .ref c ∧ H5 c = some (.tup (k.map kV)) ∧ H5 D = some (.dT kvs) ∧ kvs.length < sizeLine ∧ Pv (i + 1) (upd H5 D (.dT (putK kvs k z))) else Pv (i + 1) H3) (hd : ∀ H, Pv xs.length H → Qd H) :
    ∃ W : Nat → Nat → Hp → Prop, (∃ m, W 0 m (upd H1 D (.dT []))) ∧ ∀ i m H, W i m H →
      ((Itl K a).stop i H ∧ Qd H) ∨ ((Itl K a).go i H ∧ ∃ Nx : Hp → Prop, (∀ H', Nx H' → ∃ m', m' < m ∧ W (i + 1) m' H') ∧ ∀ x H', (Itl K a).yld i H x H' → g x (wipe σ vs) H' fun σ2 H2 => wipe σ2 vs = wipe σ vs ∧ tt σ2 H2 fun b H3 =>
        if b = true then tk σ2 H3 fun y H4 => tv σ2 H4 fun z H5 => ∃ kvs k c, y = .ref c ∧ H5 c = some (.tup (k.map kV)) ∧ H5 D = some (.dT kvs) ∧ kvs.length < sizeLine ∧ Nx (upd H5 D (.dT (putK kvs k z))) else Nx H3) := by
  refine ⟨fun i m H => m = xs.length - i ∧ i ≤ xs.length ∧ Pv i H, ⟨xs.length, by simp, Nat.zero_le _, h0⟩, ?_⟩
  rintro i m H ⟨rfl, hi, p⟩
  have q := hl i H hi p
  rcases Nat.lt_or_ge i xs.length with lt | ge
  · refine .inr ⟨⟨xs, xs[i], q, by simp [lt]⟩, Pv (i + 1), fun H' p' => ⟨xs.length - (i + 1), by omega, rfl, lt, p'⟩, fun x H' y => ?_⟩
    obtain ⟨e, y⟩ := y
    subst e
    exact hs i x _ (y xs q) p
  · obtain rfl : i = xs.length := by omega
    exact .inl ⟨⟨xs, q, Nat.le_refl _⟩, hd H p⟩
end
end DcT
namespace L2
open PySem PySem.Spec PyProof.Rows
/-- a callee that may raise, called where it doesn't -/
theorem passN {X : Cx} {C : CXT} (h : C = L2.CX X.prog X.w) : Passes C X (fun _ _ _ => False) := by
  subst h
  exact passes_call (W := fun _ _ _ _ => False) takes0 (fun _ _ _ _ h => h)
section
variable {X : Cx} {CX : CXT} {k : Nat} {f C : Addr} {fd : FuncData} {ps : List Str} {sp : Sp} {E : St → XK} {x m : Str} {p pos apos : Pos} {e o : Expr} {es : List Expr} {ta : TE} {t : TA}
/-- o.m(e, ..), what it may raise told at the slots -/
def tMethX (C : Addr) (m : Str) (sp : Sp) (E : St → XK) (ta : TE) (t : TA) : TE := fun σ H Q => ta σ H fun x H1 => ∃ a dx fs, x = .ref a ∧ H1 a = some (.ins C dx fs) ∧ fs.lookup m = none ∧ t σ H1 fun vs H2 => sp (.ref a :: vs) H2 Q (E σ)
theorem pe_methX {pl : Sem Bool} (he : PE X o ta) (c : Cls X.K C) (hm : Meth X.K C m f) (F : FnOk X.prog X.w X.K X.mg X.base CX k f fd ps sp) (hr : Room k X.A) (hb : Binds X.K fd ps []) (hx : ∀ σ, PassesAt CX X σ (E σ)) (ha : PA X (e :: es) t)
    (hst : starEach (e :: es) X.env = (false, eval e X.env) :: starEach es X.env := by rfl) (hpl : (backTo pos (starEach es X.env)).any (·.1) = false := by rfl)
    (ht : eval (.Call (.Attribute o m apos) (e :: es) [] pos) X.env = (do
      let ov ← eval o X.env
      standAt apos.atName
      let (f, first) ← holding [ov] (getMethod ov m pl)
      callWith pos f first (backTo pos (starEach (e :: es) X.env)) (backToKw pos (keywordEach [] X.env))) := by rfl) :
    PE X (.Call (.Attribute o m apos) (e :: es) [] pos) (tMethX C m sp E ta t) := by
  refine ⟨fun pins s σ H Q I h => ?_⟩
  refine PySem.W.methodCall_KW (pl := pl) (thn (he.run pins s σ H _ I h) fun u s1 ⟨x, H1, I1, rx, a, dx, fs, ex, ea, l, q⟩ => ?_) ht
  subst ex
  obtain rfl : u = Value.ref a := rx
  refine getmeth_ok I1 ea c hm l ?_
  refine PySem.W.callWith_K (first := [.ref a]) (h₀ := X.base) I.ok.mod.kin hm.kp (thn (ha.run pos pins s1 σ H1 _ I1 q) fun us s2 ⟨vs, H2, I2, r, q2⟩ => ⟨I2.kIn, ?_⟩) hst hpl
  exact run_fnS (us := .ref a :: us) (vs := .ref a :: vs) F hr hb (hx σ) I2 (.cons rfl r) q2
theorem pe_methX0 {pl : Sem Bool} (he : PE X o ta) (c : Cls X.K C) (hm : Meth X.K C m f) (F : FnOk X.prog X.w X.K X.mg X.base CX k f fd ps sp) (hr : Room k X.A) (hb : Binds X.K fd ps []) (hx : ∀ σ, PassesAt CX X σ (E σ))
    (ht : eval (.Call (.Attribute o m apos) [] [] pos) X.env = (do
      let ov ← eval o X.env
      standAt apos.atName
      let (f, first) ← holding [ov] (getMethod ov m pl)
      callWith pos f first (backTo pos (starEach [] X.env)) (backToKw pos (keywordEach [] X.env))) := by rfl) :
    PE X (.Call (.Attribute o m apos) [] [] pos) (tMethX C m sp E ta tNil) := by
  refine ⟨fun pins s σ H Q I h => ?_⟩
  refine PySem.W.methodCall_KW (pl := pl) (thn (he.run pins s σ H _ I h) fun u s1 ⟨x, H1, I1, rx, a, dx, fs, ex, ea, l, q⟩ => ?_) ht
  subst ex
  obtain rfl : u = Value.ref a := rx
  refine getmeth_ok I1 ea c hm l ?_
  exact PySem.W.callWith_K0 (first := [.ref a]) I1.kIn hm.kp (run_fnS (us := [.ref a]) (vs := [.ref a]) F hr hb (hx σ) I1 (.cons rfl .nil) q)
/-- C(e, ..), what its __init__ may raise told at the slots -/
def tMakeX (C : Addr) (sp : Sp) (E : St → XK) (t : TA) : TE := fun σ H Q => t σ H fun vs H1 => ∀ x dx, H1 x = none → H1 dx = none → dx ≠ x →
  sp (.ref x :: vs) (upd (upd H1 dx (.own x)) x (.ins C dx [])) (fun v H2 => v = .non ∧ Q (.ref x) H2) (E σ)
theorem pe_makeX (M : Mk X.K C f) (F : FnOk X.prog X.w X.K X.mg X.base CX k f fd ps sp) (hr : Room (k + 1) X.A) (hg : Gl X x) (hm : X.mg x = some (.ref C)) (hb : Binds X.K fd ps []) (hx : ∀ σ, PassesAt CX X σ (E σ))
    (ha : PA X (e :: es) t) (hdb : (x == ("__debug__" : Str)) = false := by decide) (he : starEach (e :: es) X.env = (false, eval e X.env) :: starEach es X.env := by rfl) (hpl : (backTo pos (starEach es X.env)).any (·.1) = false := by rfl) :
    PE X (.Call (.Name x p) (e :: es) [] pos) (tMakeX C sp E t) := by
  refine ⟨fun pins s σ H Q I h => ?_⟩
  refine wpAny_Call_Name_kw (ld_glob I hg hm ?_ hdb)
  refine PySem.W.callWith_K (h₀ := X.base) I.ok.mod.kin M.kp (thn (ha.run pos pins s σ H _ I h) fun us s1 ⟨vs, H1, I1, r, q⟩ => ⟨I1.kIn, ?_⟩) he hpl
  have hq := q (s1.heap.objs.size + 1) s1.heap.objs.size (I1.hok.fresh (Nat.le_succ _)) (I1.hok.fresh (Nat.le_refl _)) (Nat.ne_of_lt (Nat.lt_succ_self _))
  have I2 := Inv.made (C := C) I1
  have r2 : Vals (V.ref (s1.heap.objs.size + 1) :: vs) (Value.ref (s1.heap.objs.size + 1) :: us) := .cons rfl r
  have hl : (Value.ref (s1.heap.objs.size + 1) :: us).length = ps.length := by
    have e := r2.length
    rw [F.len _ _ _ _ hq] at e
    exact e.symm
  have b := hb _ (Value.ref (s1.heap.objs.size + 1) :: us) I2.kIn (by rw [List.append_nil]; exact hl)
  rw [List.append_nil] at b
  refine wpAny_call (make_map (f := f) I1.kIn M.makes M.init (beq_iff_eq.mp M.fn) (codeAny_mono (F.run _ X.stack _ _ ⟨Value.ref (s1.heap.objs.size + 1) :: us, []⟩ (Value.ref (s1.heap.objs.size + 1) :: us) _ _ (E σ) (hr.make C us [])
    (I2.env0.make C us []) b r2 hq) fun r s' hq' => ?_))
  cases r with
  | error e => exact hx σ pins _ _ e s' I2 hq'
  | ok fl =>
    cases fl with
    | ret u =>
      obtain ⟨v, H', I3, rv, ev, q3⟩ := I2.after hq'
      subst ev
      exact ⟨rv, ⟨V.ref (s1.heap.objs.size + 1), H', I3, rfl, q3⟩⟩
    | next => exact False.elim hq'
    | brk => exact False.elim hq'
    | cont => exact False.elim hq'
end
/-- isinstance(e, c), e the exception that the suite holds, with a dict of its own -/
theorem call_isX {X : Cx} {a D : Addr} {cls : Value} {oe : Obj} {d : Option Addr} {pn : List (Addr × Obj)} (C : ExcC X.K D) (hz : Zc cls d oe) (hf : ∃ vs, oe.data = .fields vs) :
    CallR (X.suite a ((a, oe) :: pn)) (.builtin "isinstance") (fun xs H Q => ∃ (dd : Addr) (fs : List (Str × V)) (c : V) (cv : Value) (b : Bool), cls = .ref D ∧ d = some dd ∧ H dd = some (.xd fs) ∧ xs = [.ref a, c] ∧ (∀ u, RelV c u → u = cv) ∧ PySem.W.kitOne X.K (.ref D) cv = some b ∧ Q (.bl b) H) := by
  intro pins s σ H xs us Q I r h
  obtain ⟨dd, fs, c, cv, b, rfl, rfl, ed, rfl, hcv, e, q⟩ := h
  cases r with
  | cons rx rr =>
    cases rr with
    | cons rt rr =>
      cases rr
      cases rx
      have ec := hcv _ rt
      subst ec
      obtain ⟨hget, _⟩ := I.pin (a, oe) (List.mem_append.mpr (.inl List.mem_cons_self))
      obtain ⟨vs, hv⟩ := hf
      have hx : ObjOk X.prog X.w H s.heap dd (.xd fs) := I.hok dd _ ed
      obtain ⟨mA, hns, hr⟩ := hx
      obtain ⟨od, ho, hl⟩ := lookIn_ns hns
      have J : PySem.W.InstAt s.heap a oe D (some od) := ⟨hget, hz.1, by unfold PySem.W.notCls; rw [hv] <;> rfl, by rw [hz.2]; exact ho⟩
      have hcl : (PySem.W.clsIn X.K D).isSome = true := by
        obtain ⟨cdD, hcD, _⟩ := PySem.W.any_some C.hd
        rw [hcD]
        rfl
      exact PySem.W.kia_one (PySem.W.kitx_exc hcl C.hg C.hk C.hs C.ha C.hn C.ht C.hm) I.kIn J e (fun z => nomatch z) fun tk => ⟨.bl b, H, I.kept (t' := tk) fun _ _ z => z, rfl, q⟩
/-! ### two dicts that hold the same, things at addresses too -/
def sameB : V → Bool
  | .ref _ => true
  | v => flatB v
theorem eqAt_sameB {A : Around} {s : Shared} {v : V} {u u' : Value} (r : RelV v u) (r' : RelV v u') (f : sameB v = true) : SeqAt.EqAt A s u u' true := by
  cases v with
  | ref a =>
    cases (show u = Value.ref a from r)
    cases (show u' = Value.ref a from r')
    exact SeqAt.EqAt.same _
  | non => exact eqAt_same r r' f
  | bl b => exact eqAt_same r r' f
  | int i => exact eqAt_same r r' f
  | str x => exact eqAt_same r r' f
  | byt b => exact eqAt_same r r' f
  | flt x => exact eqAt_same r r' f
  | ty n => exact eqAt_same r r' f
theorem hits_allS {κ : Type} [DecidableEq κ] {A : Around} {s : Shared} {kvs : List (κ × V)} {vb : List (κ × Value)} (rb : KV kvs vb) {ks : List (κ × V)} {va : List (κ × Value)} (ra : KV ks va) :
    (∀ p ∈ ks, valV kvs p.1 = some p.2 ∧ sameB p.2 = true) → PySem.W.KeqHits A s vb va true := by
  unfold KV at ra
  induction ra with
  | nil => intro _; exact .nil
  | @cons p q ps qs h t ih =>
    intro hp
    obtain ⟨h1, h2⟩ := h
    obtain ⟨e, f⟩ := hp p List.mem_cons_self
    have rr : RelO (some p.2) (valueAt vb p.1) := by rw [← e]; exact rb.val p.1
    obtain ⟨y, hy, ry⟩ := rr.some_of
    obtain ⟨k, v⟩ := q
    have h1' : p.1 = k := h1
    rw [h1'] at hy
    show PySem.W.KeqHits A s vb ((k, v) :: qs) (true && true)
    exact .hit hy (eqAt_sameB h2 ry f) (ih fun p' hm => hp p' (List.mem_cons_of_mem _ hm))
def rNeS : R2 := fun x y H Q => ∃ a b ks ls, x = .ref a ∧ y = .ref b ∧ H a = some (.dK ks) ∧ H b = some (.dK ls) ∧ ks.length = ls.length ∧ (∀ p ∈ ks, valV ls p.1 = some p.2 ∧ sameB p.2 = true) ∧ Q (.bl false) H
theorem op_neS {X : Cx} (hu : X.A.units + 1 < cLine) : OpR X (compareOp .NotEq) rNeS := by
  intro pins s σ H x y v u Q I rx ry h
  obtain ⟨a, b, ks, ls, rfl, rfl, ea, eb, hlen, hp, q⟩ := h
  obtain rfl : v = Value.ref a := rx
  obtain rfl : u = Value.ref b := ry
  obtain ⟨_, ya, va, ra, da⟩ := (show ObjOk X.prog X.w H s.heap a (.dK ks) from I.hok a _ ea)
  obtain ⟨_, yb, vb, rb, db⟩ := (show ObjOk X.prog X.w H s.heap b (.dK ls) from I.hok b _ eb)
  have hl : va.length = vb.length := by rw [← ra.length, ← rb.length]; exact hlen
  exact PySem.W.keq_ne (knd := mixKind X.prog X.w) (r := true) ya yb da db (by omega) (fun _ => hits_allS rb ra hp) (fin_bl I q (by simp [hl]))
def rEqS : R2 := fun x y H Q => ∃ a b ks ls, x = .ref a ∧ y = .ref b ∧ H a = some (.dK ks) ∧ H b = some (.dK ls) ∧ ks.length = ls.length ∧ (∀ p ∈ ks, valV ls p.1 = some p.2 ∧ sameB p.2 = true) ∧ Q (.bl true) H
theorem op_eqSX {X : Cx} (hu : X.A.units + 1 < cLine) : OpR X (compareOp .Eq) rEqS := by
  intro pins s σ H x y v u Q I rx ry h
  obtain ⟨a, b, ks, ls, rfl, rfl, ea, eb, hlen, hp, q⟩ := h
  obtain rfl : v = Value.ref a := rx
  obtain rfl : u = Value.ref b := ry
  obtain ⟨_, ya, va, ra, da⟩ := (show ObjOk X.prog X.w H s.heap a (.dK ks) from I.hok a _ ea)
  obtain ⟨_, yb, vb, rb, db⟩ := (show ObjOk X.prog X.w H s.heap b (.dK ls) from I.hok b _ eb)
  have hl : va.length = vb.length := by rw [← ra.length, ← rb.length]; exact hlen
  exact PySem.W.keq_eq (knd := mixKind X.prog X.w) (r := true) ya yb da db (by omega) (fun _ => hits_allS rb ra hp) (fin_bl I q (by simp [hl]))
theorem kit_self {K : PySem.W.Frag} (x : Addr) : PySem.W.kitOne K (.ref x) (.ref x) = some true := by
  show (if (Value.ref x == Value.ref x) = true then some true else _) = some true
  rw [if_pos (by simp)]
theorem kit_ref {K : PySem.W.Frag} {x y : Addr} (hdct : PySem.W.hasDictIn K y = true) (ht : PySem.W.typeIn K (.ref y) = some (.type "type")) (h4 : PySem.W.subIn K (.ref x) (.ref y) = some true) : PySem.W.kitOne K (.ref x) (.ref y) = some true := by
  obtain ⟨cd, hc, _⟩ := PySem.W.any_some hdct
  have e2 : ((PySem.W.clsIn K y).isSome && PySem.W.typeIn K (.ref y) == some (.type "type")) = true := by rw [hc, ht] <;> rfl
  show (if (Value.ref x == Value.ref y) = true then some true else if ((PySem.W.clsIn K y).isSome && PySem.W.typeIn K (.ref y) == some (.type "type")) = true then PySem.W.subIn K (.ref x) (.ref y) else none) = some true
  rw [if_pos e2, h4]
  split <;> rfl
/-! ### two dicts compared whose values are data: True or False -/
def eqT (D : V → PyData) (ks ls : List (Key × V)) : Bool := (ks.length == ls.length) && ks.all fun p => match valV ls p.1 with
  | none => false
  | some v => PyData.eqv (D p.2) (D v)
theorem hits_data {X : Cx} {pins : List (Addr × Obj)} {σ : St} {H : Hp} {s : Shared} {A : Around} (I : Inv X pins σ H s) (hu : A.units + 65 < cLine) (D : V → PyData) {ls : List (Key × V)} {vb : List (Key × Value)} (rb : KV ls vb) (hb : ∀ p ∈ ls, Dp X.K H p.2 (D p.2) ∧ SeqAt.shaped (D p.2) = true) {ks : List (Key × V)} {va : List (Key × Value)} (ra : KV ks va) :
    (∀ p ∈ ks, Dp X.K H p.2 (D p.2) ∧ SeqAt.shaped (D p.2) = true) → PySem.W.KeqHits A.in1 s vb va (ks.all fun p => match valV ls p.1 with
      | none => false
      | some v => PyData.eqv (D p.2) (D v)) := by
  unfold KV at ra
  induction ra with
  | nil => intro _; exact .nil
  | @cons p q ps qs h t ih =>
    intro hp
    obtain ⟨h1, h2⟩ := h
    obtain ⟨k, v⟩ := q
    have h1' : p.1 = k := h1
    have rr := rb.val p.1
    have ih' := ih fun p' hm => hp p' (List.mem_cons_of_mem _ hm)
    rw [List.all_cons]
    cases e : valV ls p.1 with
    | none =>
      rw [e] at rr
      have hn : valueAt vb p.1 = none := by
        cases e2 : valueAt vb p.1 with
        | none => rfl
        | some _ => rw [e2] at rr; exact (show False from rr).elim
      rw [h1'] at hn
      exact .miss hn
    | some y =>
      rw [e] at rr
      obtain ⟨u, hy, ry⟩ := rr.some_of
      rw [h1'] at hy
      have hy2 : ∃ q ∈ ls, q.2 = y := by
        unfold valV at e
        cases e3 : ls.find? fun kv => decide (kv.1 = p.1) with
        | none => rw [e3] at e; cases e
        | some q => rw [e3] at e; exact ⟨q, List.mem_of_find?_eq_some e3, Option.some.inj e⟩
      obtain ⟨q, hq, rfl⟩ := hy2
      obtain ⟨as, r1⟩ := Dp.reads I _ _ _ (hp p List.mem_cons_self).1 h2
      obtain ⟨bs, r2⟩ := Dp.reads I _ _ _ (hb q hq).1 ry
      exact .hit hy (PySem.W.keq_at r1 r2 (hp p List.mem_cons_self).2 (hb q hq).2 (by show A.units + 1 + 64 < cLine; omega)) ih'
def rEqT (K : PySem.W.Frag) (neg : Bool) : R2 := fun x y H Q => ∃ (a b : Addr) (ks ls : List (Key × V)) (D : V → PyData), x = .ref a ∧ y = .ref b ∧ H a = some (.dK ks) ∧ H b = some (.dK ls) ∧ (∀ p ∈ ks, Dp K H p.2 (D p.2) ∧ SeqAt.shaped (D p.2) = true) ∧ (∀ p ∈ ls, Dp K H p.2 (D p.2) ∧ SeqAt.shaped (D p.2) = true) ∧ Q (.bl (if neg then !eqT D ks ls else eqT D ks ls)) H
theorem op_eqT {X : Cx} (hu : X.A.units + 65 < cLine) : OpR X (compareOp .Eq) (rEqT X.K false) := by
  intro pins s σ H x y v u Q I rx ry h
  obtain ⟨a, b, ks, ls, D, rfl, rfl, ea, eb, ha, hb, q⟩ := h
  obtain rfl : v = Value.ref a := rx
  obtain rfl : u = Value.ref b := ry
  obtain ⟨_, ya, va, ra, da⟩ := (show ObjOk X.prog X.w H s.heap a (.dK ks) from I.hok a _ ea)
  obtain ⟨_, yb, vb, rb, db⟩ := (show ObjOk X.prog X.w H s.heap b (.dK ls) from I.hok b _ eb)
  refine PySem.W.keq_eq (knd := mixKind X.prog X.w) ya yb da db (by omega) (fun _ => hits_data I hu D rb hb ra ha) (fin_bl I q ?_)
  unfold eqT
  rw [ra.length, rb.length]
  rfl
theorem op_neT {X : Cx} (hu : X.A.units + 65 < cLine) : OpR X (compareOp .NotEq) (rEqT X.K true) := by
  intro pins s σ H x y v u Q I rx ry h
  obtain ⟨a, b, ks, ls, D, rfl, rfl, ea, eb, ha, hb, q⟩ := h
  obtain rfl : v = Value.ref a := rx
  obtain rfl : u = Value.ref b := ry
  obtain ⟨_, ya, va, ra, da⟩ := (show ObjOk X.prog X.w H s.heap a (.dK ks) from I.hok a _ ea)
  obtain ⟨_, yb, vb, rb, db⟩ := (show ObjOk X.prog X.w H s.heap b (.dK ls) from I.hok b _ eb)
  refine PySem.W.keq_ne (knd := mixKind X.prog X.w) ya yb da db (by omega) (fun _ => hits_data I hu D rb hb ra ha) (fin_bl I q ?_)
  unfold eqT
  rw [ra.length, rb.length]
  rfl
/-! ### == of two objects of an own class by the class's own def, whatever it tells -/
def rEqO (C : Addr) (sp : Sp) (E : XK) : R2 := fun x y H Q => ∃ (a b dx dy : Addr) (fs gs : List (Str × V)), x = .ref a ∧ y = .ref b ∧ H a = some (.ins C dx fs) ∧ H b = some (.ins C dy gs) ∧ sp [.ref a, .ref b] H (fun v H' => ∃ c, v = .bl c ∧ Q (.bl c) H') E
theorem op_eqO {X : Cx} {CX : CXT} {n : Nat} {C f : Addr} {fd : FuncData} {ps : List Str} {sp : Sp} {E : XK} (F : FnOk X.prog X.w X.K X.mg X.base CX n f fd ps sp) (hrm : Room n X.A)
    (hs : PySem.W.findIn X.K (.ref C) "__eq__" = some (some (.ref f))) (hf : PySem.W.isFn X.K (.ref f) = true) (hb : Binds X.K fd ps []) (hx : Passes CX X E) : OpR X (compareOp .Eq) (rEqO C sp E) := by
  intro pins s σ H x y v u Q I rx ry h
  obtain ⟨a, b, dx, dy, fs, gs, rfl, rfl, ha, hb', hsp⟩ := h
  cases (show v = Value.ref a from rx)
  cases (show u = Value.ref b from ry)
  obtain ⟨mA, J, _⟩ := ins_get I.hok ha
  obtain ⟨mB, J', _⟩ := ins_get I.hok hb'
  obtain ⟨od, J, _⟩ := J.look
  obtain ⟨od', J', _⟩ := J'.look
  obtain ⟨m, hF⟩ := I.fr
  refine PySem.W.cmp_K (op := .Eq) (tb := .ref C) hrm.units0 hF I.ok.mod.kin J J'.type (by simp [PySem.W.notFirst]) hs hf ?_
  refine wpAny_mono (run_fn (us := [.ref a, .ref b]) (vs := [.ref a, .ref b]) (dvs := []) (ds := []) F hrm hb .nil hx I (.cons rfl (.cons rfl .nil)) hsp) (fun r s' q => ?_) fun _ _ z => z
  obtain ⟨w, H', I', rw', c, ew, q⟩ := q
  subst ew
  cases rw'
  exact ⟨.bl c, H', I', rfl, q⟩
end L2
namespace LR
open PySem PySem.Spec PyProof.Rows L2 RT
section
variable {prog : Program} {w : World} {A : Around} {s : Shared} {R : Result → Shared → Prop}
theorem extend_rev {it l : Addr} {items : Array Value} (hh : A.handled = none) (hit : s.heap.IsRevIter it l ((items.size : Int) - 1)) (hl : s.heap.IsList l items) (hne : l ≠ it) (S : Addr) (hSi : S ≠ it) (hSl : S ≠ l) (res : Value) (c₀ : Nat)
    (hS : s.heap.get? S = some { cls := .type "list", data := .seq #[] c₀ }) (hn : items.size ≤ sizeLine)
    (hR : ∀ s' acc' c', Moved (S :: [it]) (fun a b => b = a) s s' → s'.heap.get? S = some { cls := .type "list", dict := none, data := .seq acc' c', slots := #[] } → ItemsOf (fun i v => items[items.size - 1 - i]? = some v) acc' items.size → R (.ok (.ret res)) s') :
    wpAny (model prog w) A.in1 (Builtin.List.listExtendWith (.ref S) (.ref it) res)
      (fun fin s' => match fin with | .done f => R (.ok f) s' | .again c' => c'.quiet = true ∧ codeAny (model prog w) A c' R s') (fun e s' => R (.error e) s') s := by
  have W := (Walks.listRev (prog := prog) (w := w) (A := A.in1) hh it l hne items).toS
  have hSf : S ∉ [it, l] := by simp only [List.mem_cons, List.not_mem_nil, or_false, not_or]; exact ⟨hSi, hSl⟩
  have hT : s.TypeIs (.ref it) "list_reverseiterator" := hit.typeIs
  have h1 : Builtin.List.listSameRef (.ref S) (.ref it) = false := by simp [Builtin.List.listSameRef, hSi]
  unfold Builtin.List.listExtendWith
  refine wpAny_bind (wpAny_typeOf hT ?_)
  rw [if_neg (by rw [h1]; decide)]
  refine wpAny_bind (wpAny_pyIter_revIter hit ?_)
  refine wpAny_bind (wpAny_holding ?_)
  unfold Builtin.List.listLengthHint
  refine wpAny_bind (wpAny_specialOf hT nolen_lri ?_)
  show wpAny _ A.in1 (specialOf (Value.ref it) (Str.ofString "__length_hint__") >>= _) _ _ _
  refine wpAny_bind (wpAny_specialOf hT hint_lri ?_)
  generalize hid : ("list_reverseiterator.__length_hint__" : String) = id0
  wp_delta
  rw [show splitId id0 = some ("list_reverseiterator", "__length_hint__") from by subst hid; decide +kernel]
  subst hid
  refine wpAny_bind (wpAny_isInstance (b := true) hT (by rw [isSubtype_type]; kernel_rfl) ?_)
  refine wpAny_pure ?_
  rw [if_neg (by decide)]
  have e0 : ((items.size : Nat) : Int) - 1 - ((0 : Nat) : Int) = (items.size : Int) - 1 := by omega
  refine wpAny_pure ⟨plainId_quiet F.plain_extend_loop _, codeAny_extend_loopS W hn _ hSf _ items.size 0 _ _ _ rfl (Nat.zero_le _) ⟨Nat.zero_le _, by rw [e0]; exact hit, hl⟩ hS (ItemsOf.nil _) fun s' acc' c' hm hS' hacc => ?_⟩
  exact hR s' acc' c' hm hS' hacc
theorem list_init_rev {it l : Addr} {items : Array Value} (hh : A.handled = none) (hit : s.heap.IsRevIter it l ((items.size : Int) - 1)) (hl : s.heap.IsList l items) (hne : l ≠ it) (S : Addr) (hSi : S ≠ it) (hSl : S ≠ l)
    (hS : s.heap.get? S = some { cls := .type "list", data := .seq #[] }) (hn : items.size ≤ sizeLine)
    (hR : ∀ s' acc' c', Moved (S :: [it]) (fun a b => b = a) s s' → s'.heap.get? S = some { cls := .type "list", dict := none, data := .seq acc' c', slots := #[] } → ItemsOf (fun i v => items[items.size - 1 - i]? = some v) acc' items.size → R (.ok (.ret .none)) s') :
    wpAny (model prog w) A.in1 (Builtin.«list.__init__» ⟨[.ref S, .ref it], []⟩)
      (fun fin s' => match fin with | .done f => R (.ok f) s' | .again c' => c'.quiet = true ∧ codeAny (model prog w) A c' R s') (fun e s' => R (.error e) s') s := by
  show wpAny _ A.in1 (do let old ← Builtin.List.listItems (.ref S); Builtin.List.listUpdate (.ref S) (fun _ => #[]); letGo old.toList.reverse; Builtin.List.listExtendWith (.ref S) (.ref it) .none) _ _ s
  refine wpAny_bind ?_
  unfold Builtin.List.listItems
  refine wpAny_bind (wpAny_seqItems hS rfl (wpAny_pure ?_))
  show wpAny _ A.in1 (updateSeq S (fun _ => #[]) >>= fun _ => letGo (#[] : Array Value).toList.reverse >>= fun _ => Builtin.List.listExtendWith (.ref S) (.ref it) .none) _ _ s
  refine wpAny_bind (wpAny_updateSeq hS rfl ?_)
  have hS₂ := Heap.get?_update_self (Obj.mapSeq (fun _ => (#[] : Array Value))) hS rfl
  have oth : ∀ b o, b ≠ S → s.heap.get? b = some o → (s.heap.update S (Obj.mapSeq (fun _ => (#[] : Array Value)))).get? b = some o :=
    fun b o hb e => (Heap.get?_update_other _ _ (Ne.symm hb)).trans e
  refine wpAny_bind (wpAny_letGo ?_)
  refine extend_rev (s := { s with heap := s.heap.update S (Obj.mapSeq (fun _ => (#[] : Array Value))) }) hh (hit.at fun o e => oth it o hSi.symm e) (let ⟨o, e, r⟩ := hl; ⟨o, oth l o hSl.symm e, r⟩) hne S hSi hSl .none _ hS₂ hn fun s' acc' c' hm hS' hacc => ?_
  refine hR s' acc' c' (Moved.trans (fun _ _ _ a b => b.trans a) (Moved.then_heap (wr := S :: [it]) (G := fun a b => b = a) (Moved.refl fun _ => rfl) (Nat.le_refl _) fun b o hb e => oth b o (fun h => hb ?_) e) hm) hS' hacc
  rw [h]
  exact List.mem_cons_self
end
section
variable {prog : Program} {w : World} {A : Around} {E : Value → Shared → Prop} {s : Shared}
theorem call_list_rev {it l : Addr} {items : Array Value} {Q : Value → Shared → Prop} (hh : A.handled = none) (hit : s.heap.IsRevIter it l ((items.size : Int) - 1)) (hl : s.heap.IsList l items) (hne : l ≠ it) (hn : items.size ≤ sizeLine)
    (hQ : ∀ (h' : Heap) (tk : Nat) (acc : Array Value) (c' : Nat), (∀ b o, b ≠ it → s.heap.get? b = some o → h'.get? b = some o) → h'.get? s.heap.objs.size = some { cls := .type "list", dict := none, data := .seq acc c', slots := #[] } →
      ItemsOf (fun i v => items[items.size - 1 - i]? = some v) acc items.size → Q (.ref s.heap.objs.size) { s with heap := h', toks := tk }) :
    wpAny (model prog w) A (call (.type "list") [.ref it]) Q E s := by
  obtain ⟨oi, hoi, _⟩ := id hit
  obtain ⟨ol, hol, _⟩ := id hl
  have hSi : s.heap.objs.size ≠ it := Nat.ne_of_gt (Heap.lt_size hoi)
  have hSl : s.heap.objs.size ≠ l := Nat.ne_of_gt (Heap.lt_size hol)
  refine callType_codes (Q₁ := fun obj s₁ => obj = .ref s.heap.objs.size ∧ s₁ = { s with heap := s.heap.push { cls := .type "list", data := .seq #[] } }) F.called_list (F.typeCall_list_1 _) F.entry_list_init
    (code_list_new _ ⟨rfl, rfl⟩) fun obj s₁ h₁ => ?_
  obtain ⟨rfl, rfl⟩ := h₁
  have hS : (s.heap.push { cls := .type "list", data := .seq #[] }).get? s.heap.objs.size = some { cls := .type "list", data := .seq #[] } := Heap.get?_push_size _ rfl
  refine ⟨⟨_, hS, rfl⟩, F.args_list_init_2 _ _, list_init_rev (s := { s with heap := s.heap.push { cls := .type "list", data := .seq #[] } }) (A := A.in1) hh (hit.at fun o e => Heap.get?_push_of_some _ e) (hl.push _) hne _ hSi hSl hS hn fun s' acc' c' hm hS' hacc => ?_⟩
  refine ⟨rfl, ?_⟩
  rw [Moved.eq_with hm]
  refine hQ s'.heap s'.toks acc' c' (fun b o hb e => hm.heap b o (fun hmem => ?_) (Heap.get?_push_of_some _ e)) hS' hacc
  rcases List.mem_cons.mp hmem with e' | hmem
  · exact absurd (Heap.lt_size e) (by rw [e']; exact Nat.lt_irrefl _)
  · exact hb (List.mem_singleton.mp hmem)
end
/-- list(reversed(x)), x a list: a new list -/
def tListRev (K : PySem.W.Frag) (te : TE) : TE := fun σ H Q => te σ H fun v H1 => ∃ (a : Addr) (xs : List V), v = .ref a ∧ SqL K H1 a xs ∧ ∀ q, H1 q = none → Q (.ref q) (upd H1 q (.lst xs.reverse))
section
variable {X : Cx}
theorem pe_listRev {e : Expr} {te : TE} {p p2 pos pos2 : Pos} (hc : X.calm = true) (hg : Gl X "list") (hm : X.mg "list" = none) (hg2 : Gl X "reversed") (hm2 : X.mg "reversed" = none) (he : PE X e te)
    (hs : starEach [e] X.env = (false, eval e X.env) :: starEach [] X.env := by rfl)
    (hs2 : starEach [.Call (.Name "reversed" p2) [e] [] pos2] X.env = (false, eval (.Call (.Name "reversed" p2) [e] [] pos2) X.env) :: starEach [] X.env := by rfl) :
    PE X (.Call (.Name "list" p) [.Call (.Name "reversed" p2) [e] [] pos2] [] pos) (tListRev X.K te) := by
  refine ⟨fun pins s σ H Q I h => ?_⟩
  refine Call_ (ld_blt I hg hm boot_list (PyProof.Rows.callWith_type1 (args_cons (Call_ (ld_blt I hg2 hm2 PyProof.Rows.boot_reversed (PyProof.Rows.callWith_type1 (args_cons (thn (he.run pins s σ H _ I h) fun u s1 ⟨v, H1, I1, r1, q1⟩ => args_nil ?_) hs) hs rfl))) hs2) hs2 rfl))
  obtain ⟨a, xs, ev, hq, q⟩ := q1
  subst ev
  obtain rfl : u = Value.ref a := r1
  obtain ⟨its, rv, p', hz⟩ := I1.list hq
  refine call_reversed_list p'.isList (args_nil ?_)
  have k0 : ∀ b o, s1.heap.get? b = some o → (s1.heap.push (revObj a ((its.toArray.size : Int) - 1))).get? b = some o := fun b o e => Heap.get?_push_of_some _ e
  have I2 : Inv X pins σ H1 { s1 with heap := s1.heap.push (revObj a ((its.toArray.size : Int) - 1)) } := I1.kept (t' := s1.toks) k0
  obtain ⟨f0, f1, f2, f3, f4, f5⟩ := I1.fpOk (H' := H1) (b := s1.heap.objs.size) (Nat.le_refl _) (I1.hok.fresh (Nat.le_refl _))
  have hl := p'.isList
  obtain ⟨ol, hol, _⟩ := id hl
  have hne : a ≠ s1.heap.objs.size := Nat.ne_of_lt (Heap.lt_size hol)
  have hn : its.toArray.size ≤ sizeLine := by rw [List.size_toArray, ← rv.length]; exact hz
  refine call_list_rev (s := { s1 with heap := s1.heap.push (revObj a ((its.toArray.size : Int) - 1)) }) (I1.ok.hd hc) ⟨_, Heap.get?_push_size _ rfl, rfl, rfl⟩ (hl.push _) hne hn fun h' tk acc c' hk hS' hi => ?_
  have hfp : ∀ b ∈ [s1.heap.objs.size], FpOk X pins H1 b := fun b hb => by
    rw [List.mem_singleton.mp hb]
    exact ⟨f0, f1, f2, f3, f4, f5⟩
  refine ⟨.ref (s1.heap.push (revObj a ((its.toArray.size : Int) - 1))).objs.size, upd H1 _ (.lst xs.reverse), I2.turnedNew (t' := tk) (ch := [s1.heap.objs.size]) (ob := .lst xs.reverse) (fun b o hb e => hk b o (fun z => hb (by rw [z]; exact List.mem_singleton.mpr rfl)) e) hfp (Nat.le_refl _)
    (show ObjOk X.prog X.w _ _ _ (.lst xs.reverse) from ⟨by rw [List.length_reverse]; exact hz, acc.toList, c', vals_rev rv hi, ?_⟩), rfl, q _ (I2.hok.fresh (Nat.le_refl _))⟩
  rw [Array.toArray_toList]
  exact hS'
end
end LR
namespace L2
open PySem PySem.Spec PyProof.Rows
section
variable {X : Cx} {CX : CXT} {k : Nat} {f C : Addr} {fd : FuncData} {ps : List Str} {sp : Sp} {E : St → XK}
theorem pAt {EX : XK} (h : Passes CX X EX) : ∀ σ, PassesAt CX X σ ((fun _ => EX) σ) := fun σ pins H s e s' I hq => h pins σ H s e s' I hq
/-- a call one level below -/
theorem run_fn1 {pins : List (Addr × Obj)} {σ : St} {H : Hp} {s : Shared} {Q : VK} {us : List Value} {vs : List V} (F : FnOk X.prog X.w X.K X.mg X.base CX k f fd ps sp) (hr : Room (k + 1) X.A) (hb : Binds X.K fd ps []) (hx : PassesAt CX X σ (E σ))
    (I : Inv X pins σ H s) (r : Vals vs us) (h : sp vs H Q (E σ)) : wpAny (model X.prog X.w) X.A.in1 (call (.ref f) us) (EP X pins σ Q) X.xe s := by
  have h' : sp (vs ++ []) H Q (E σ) := by rw [List.append_nil]; exact h
  have r2 : Vals (vs ++ []) (us ++ []) := r.append .nil
  have hl : (us ++ []).length = ps.length := by rw [← r2.length]; exact F.len _ _ _ _ h'
  refine wpAny_call (codeAny_mono (F.run X.A.in1 X.stack s H ⟨us, []⟩ (us ++ []) (vs ++ []) Q (E σ) hr.in1 I.env0.in1 (hb s us I.kIn hl) r2 h') fun r s' hq => ?_)
  cases r with
  | error e => exact hx pins H s e s' I hq
  | ok fl =>
    cases fl with
    | ret u => exact I.after hq
    | next => exact False.elim hq
    | brk => exact False.elim hq
    | cont => exact False.elim hq
theorem run_fn0 {pins : List (Addr × Obj)} {σ : St} {H : Hp} {s : Shared} {Q : VK} {us : List Value} {vs : List V} (F : FnOk X.prog X.w X.K X.mg X.base CX k f fd ps sp) (hr : Room k X.A) (hb : Binds X.K fd ps []) (hx : PassesAt CX X σ (E σ))
    (I : Inv X pins σ H s) (r : Vals vs us) (h : sp vs H Q (E σ)) : wpAny (model X.prog X.w) X.A (call (.ref f) us) (EP X pins σ Q) X.xe s :=
  run_fnSD (dvs := []) (ds := []) F hr hb .nil hx I r (by rw [List.append_nil]; exact h)
/-- an own special method: where it is found -/
structure Spec1 (K : PySem.W.Frag) (C : Addr) (m : String) (f : Addr) : Prop where
  at_ : PySem.W.findIn K (.ref C) m = some (some (.ref f))
  fn : PySem.W.isFn K (.ref f) = true
  isf : PySem.W.fnIn K f = true
/-! ### o[e] by the class's own def -/
def tSubO (C : Addr) (sp : Sp) (E : St → XK) (ta tb : TE) : TE := fun σ H Q => ta σ H fun x H1 => tb σ H1 fun y H2 => ∃ a dx fs, x = .ref a ∧ H2 a = some (.ins C dx fs) ∧ sp [.ref a, y] H2 Q (E σ)
theorem pe_subO {a b : Expr} {ta tb : TE} {pos : Pos} (ha : PE X a ta) (hb : PE X b tb) (hs : Spec1 X.K C "__getitem__" f) (F : FnOk X.prog X.w X.K X.mg X.base CX k f fd ps sp) (hr : Room (k + 1) X.A) (hbd : Binds X.K fd ps []) (hx : ∀ σ, PassesAt CX X σ (E σ))
    (hsl : ∀ x i, subscripted b true (.ref x) i = runValue (.builtin "lifetime.subscript" ⟨[.ref x, i], []⟩) := by intro _ _; rfl) : PE X (.Subscript a b pos) (tSubO C sp E ta tb) := by
  refine ⟨fun pins s σ H Q I h => ?_⟩
  refine Subscript_ (binT (R := fun x y H2 => ∃ a dx fs, x = .ref a ∧ H2 a = some (.ins C dx fs) ∧ sp [.ref a, y] H2 Q (E σ)) ha hb I h fun v u s2 x y H2 I2 rx ry q => ?_)
  obtain ⟨o, dx, fs, rfl, ho, hsp⟩ := q
  cases (show v = Value.ref o from rx)
  obtain ⟨mA, J, _⟩ := ins_get I2.hok ho
  obtain ⟨od, J, _⟩ := J.look
  obtain ⟨m, hF⟩ := I2.fr
  exact PySem.W.sub_K hF I2.ok.mod.kin J hs.at_ hs.isf hs.fn (run_fn1 (vs := [.ref o, y]) F hr hbd (hx σ) I2 (.cons rfl (.cons ry .nil)) hsp) (hsl _ _)
/-! ### e in o -/
def rInO (C : Addr) (sp : Sp) (EX : XK) : R2 := fun x y H Q => ∃ (b dx : Addr) (fs : List (Str × V)), y = .ref b ∧ H b = some (.ins C dx fs) ∧ sp [.ref b, x] H (fun v H' => ∃ c, v = .bl c ∧ Q (.bl c) H') EX
theorem op_inO {EX : XK} (hs : Spec1 X.K C "__contains__" f) (F : FnOk X.prog X.w X.K X.mg X.base CX k f fd ps sp) (hr : Room k X.A) (hbd : Binds X.K fd ps []) (hx : Passes CX X EX) : OpR X (compareOp .In) (rInO C sp EX) := by
  intro pins s σ H x y v u Q I rx ry h
  obtain ⟨b, dx, fs, rfl, hb, hsp⟩ := h
  cases (show u = Value.ref b from ry)
  obtain ⟨mA, J, _⟩ := ins_get I.hok hb
  obtain ⟨od, J, _⟩ := J.look
  obtain ⟨m, hF⟩ := I.fr
  refine PySem.W.in_K hF I.ok.mod.kin J hs.at_ hs.fn ?_
  refine wpAny_mono (run_fn0 (vs := [.ref b, x]) (E := fun _ => EX) F hr hbd (pAt hx σ) I (.cons rfl (.cons rx .nil)) hsp) (fun r s' q => ?_) fun _ _ z => z
  obtain ⟨z, H', I', rw', c, ew, q⟩ := q
  subst ew
  cases rw'
  exact wpAny_pure ⟨.bl c, H', I', rfl, q⟩
theorem op_notinO {EX : XK} (hs : Spec1 X.K C "__contains__" f) (F : FnOk X.prog X.w X.K X.mg X.base CX k f fd ps sp) (hr : Room k X.A) (hbd : Binds X.K fd ps []) (hx : Passes CX X EX) : OpR X (compareOp .NotIn) (fun x y H Q => rInO C sp EX x y H fun v H' => ∃ c, v = .bl c ∧ Q (.bl (!c)) H') := by
  intro pins s σ H x y v u Q I rx ry h
  obtain ⟨b, dx, fs, rfl, hb, hsp⟩ := h
  cases (show u = Value.ref b from ry)
  obtain ⟨mA, J, _⟩ := ins_get I.hok hb
  obtain ⟨od, J, _⟩ := J.look
  obtain ⟨m, hF⟩ := I.fr
  refine PySem.W.notIn_K hF I.ok.mod.kin J hs.at_ hs.fn ?_
  refine wpAny_mono (run_fn0 (vs := [.ref b, x]) (E := fun _ => EX) F hr hbd (pAt hx σ) I (.cons rfl (.cons rx .nil)) hsp) (fun r s' q => ?_) fun _ _ z => z
  obtain ⟨z, H', I', rw', c, ew, c', ec, q⟩ := q
  subst ew
  cases rw'
  cases ec
  exact wpAny_pure ⟨.bl (!c), H', I', rfl, q⟩
/-! ### len(o) -/
theorem call_lenO {EX : XK} (hs : Spec1 X.K C "__len__" f) (F : FnOk X.prog X.w X.K X.mg X.base CX k f fd ps sp) (hr : Room (k + 1) X.A) (hbd : Binds X.K fd ps []) (hx : Passes CX X EX) :
    CallR X (.builtin "len") (fun xs H Q => ∃ (a dx : Addr) (fs : List (Str × V)), xs = [.ref a] ∧ H a = some (.ins C dx fs) ∧ sp [.ref a] H (fun v H' => ∃ n : Int, v = .int n ∧ (0 ≤ n ∧ n < 2 ^ 63) ∧ Q (.int n) H') EX) := by
  intro pins s σ H xs us Q I r h
  obtain ⟨a, dx, fs, rfl, ha, hsp⟩ := h
  obtain ⟨u, rfl, rx⟩ := vals1 r
  cases (show u = Value.ref a from rx)
  obtain ⟨mA, J, _⟩ := ins_get I.hok ha
  obtain ⟨od, J, _⟩ := J.look
  obtain ⟨m, hF⟩ := I.fr
  refine PySem.W.len_K hF I.ok.mod.kin J hs.at_ hs.fn ?_
  refine wpAny_mono (run_fn1 (vs := [.ref a]) (E := fun _ => EX) F hr hbd (pAt hx σ) I (.cons rfl .nil) hsp) (fun r s' q => ?_) fun _ _ z => z
  obtain ⟨z, H', I', rw', n, ew, hn, q⟩ := q
  subst ew
  obtain ⟨t, rfl⟩ := (show ∃ t, r = Value.int n t from rw')
  exact ⟨hn, ⟨.int n, H', I'.tok _, ⟨_, rfl⟩, q⟩⟩
/-! ### o | p -/
def tOrO (C : Addr) (sp : Sp) (E : St → XK) (ta tb : TE) : TE := fun σ H Q => ta σ H fun x H1 => tb σ H1 fun y H2 => ∃ a b dx dy fs gs, x = .ref a ∧ y = .ref b ∧ H2 a = some (.ins C dx fs) ∧ H2 b = some (.ins C dy gs) ∧ sp [.ref a, .ref b] H2 (fun v H3 => (∃ c, v = .ref c) ∧ Q v H3) (E σ)
theorem pe_orO {a b : Expr} {ta tb : TE} {pos : Pos} (ha : PE X a ta) (hb : PE X b tb) (hs : Spec1 X.K C "__or__" f) (hc : PySem.W.selfFirst X.K C = true) (F : FnOk X.prog X.w X.K X.mg X.base CX k f fd ps sp) (hr : Room k X.A) (hbd : Binds X.K fd ps []) (hx : ∀ σ, PassesAt CX X σ (E σ)) : PE X (.BinOp a .BitOr b pos) (tOrO C sp E ta tb) := by
  refine ⟨fun pins s σ H Q I h => ?_⟩
  refine wpAny_BinOp (binT (R := fun x y H2 => ∃ a b dx dy fs gs, x = .ref a ∧ y = .ref b ∧ H2 a = some (.ins C dx fs) ∧ H2 b = some (.ins C dy gs) ∧ sp [.ref a, .ref b] H2 (fun v H3 => (∃ c, v = .ref c) ∧ Q v H3) (E σ)) ha hb I h fun v u s2 x y H2 I2 rx ry q => ?_)
  obtain ⟨o, p, dx, dy, fs, gs, rfl, rfl, ho, hp, hsp⟩ := q
  cases (show v = Value.ref o from rx)
  cases (show u = Value.ref p from ry)
  obtain ⟨mA, J, _⟩ := ins_get I2.hok ho
  obtain ⟨mB, J', _⟩ := ins_get I2.hok hp
  obtain ⟨od, J, _⟩ := J.look
  obtain ⟨od', J', _⟩ := J'.look
  obtain ⟨m, hF⟩ := I2.fr
  refine PySem.W.binop_K (op := .BitOr) hF I2.ok.mod.kin J J'.type hc hs.at_ hs.fn ?_
  refine wpAny_mono (run_fn0 (vs := [.ref o, .ref p]) F hr hbd (hx σ) I2 (.cons rfl (.cons rfl .nil)) hsp) (fun r s' q => ?_) fun _ _ z => z
  obtain ⟨z, H', I', rw', ⟨c, ew⟩, q⟩ := q
  subst ew
  cases (show r = Value.ref c from rw')
  exact ⟨.ref c, H', I', rfl, q⟩
end
end L2
namespace L2
open PySem PySem.Spec PyProof.Rows
/-! ### d.setdefault(t, x), t a tuple -/
def rSetDefT : V → List V → Hp → VK → Prop := fun x xs H Q => ∃ (a : Addr) (kvs : List (List L2.Key × V)) (k : List L2.Key) (b : Addr) (d : V), x = .ref a ∧ xs = [.ref b, d] ∧ H a = some (.dT kvs) ∧ H b = some (.tup (k.map kV)) ∧ kvs.length < sizeLine ∧
  (∀ v, valV kvs k = some v → Q v H) ∧ (valV kvs k = none → Q d (upd H a (.dT (putK kvs k d))))
theorem mt_setdefT {X : Cx} (hu : X.A.units + 1 < cLine) : MtR X "dict.setdefault" rSetDefT := by
  intro pins s σ H x xs v us Q I rx rxs h
  obtain ⟨a, kvs, k, b, d, rfl, rfl, ha, hb, hl, q1, q2⟩ := h
  cases rx
  obtain ⟨u1, u2, rfl, r1, r2⟩ := vals2 rxs
  cases r1
  obtain ⟨z, hd, xs', rel, dd⟩ := dt_of I.hok ha
  have hz : xs'.length ≤ sizeLine := by rw [← Paired.length rel]; exact z
  have le : (putK kvs k d).length ≤ sizeLine := by have := length_putK kvs k d; omega
  refine call_setdefault_heap (knd := tupleKind (mixKind X.prog X.w)) (k := k) (tupleKind_room_in1 hu) (key_of I.hok hb) hd dd (fun p hp => ?_) (fun hn h' dd' same => ?_) hz
  · have r := rel.val k
    rw [hp] at r
    cases ev : valV kvs k with
    | none =>
      rw [ev] at r
      exact (show False from r).elim
    | some v0 =>
      rw [ev] at r
      exact ⟨v0, H, I.tok _, r, q1 v0 ev⟩
  · have r := rel.val k
    rw [hn] at r
    have e : valV kvs k = none := by
      cases ev : valV kvs k with
      | none => rfl
      | some v0 =>
        rw [ev] at r
        exact (show False from r).elim
    obtain ⟨q, es, ep, e1, e2, e3, e4, _, e5⟩ := dd'
    refine ⟨d, upd H a (.dT (putK kvs k d)), d_write I (by rw [ha]; exact True.intro) same ⟨q, e1⟩ ⟨le, hd, _, (rel.put k hb r2).keeps fun c ys ec => ?_, q, es, ep, e1, e2, e3, e4, by first | exact e5 | assumption⟩, r2, q2 e⟩
    rw [upd_ne (ne_of ec ha (fun z => nomatch z))]
    exact ec
end L2
namespace L2
open PySem PySem.Spec PyProof.Rows
/-! ### several dicts locked at once -/
def tLockNE (t : TE) : Nat → TE
  | 0 => t
  | n + 1 => tLockE (tLockNE t n)
theorem pe_lockN {X : Cx} {e : Expr} {t : TE} (h : PE X e t) : ∀ n, PE X e (tLockNE t n)
  | 0 => h
  | n + 1 => pe_lock (pe_lockN h n)
def tLocksE (t : TE) : TE := fun σ H Q => ∃ n, tLockNE t n σ H Q
theorem pe_locks {X : Cx} {e : Expr} {t : TE} (h : PE X e t) : PE X e (tLocksE t) := ⟨fun pins s σ H Q I ⟨n, hn⟩ => (pe_lockN h n).run pins s σ H Q I hn⟩
def tLockN (t : TS) : Nat → TS
  | 0 => t
  | n + 1 => tLock (tLockN t n)
theorem ps_lockN {X : Cx} {st : Stmt} {t : TS} (h : PS X st t) : ∀ n, PS X st (tLockN t n)
  | 0 => h
  | n + 1 => ps_lock (ps_lockN h n)
def tLocks (t : TS) : TS := fun D σ H => ∃ n, tLockN t n D σ H
theorem ps_locks {X : Cx} {st : Stmt} {t : TS} (h : PS X st t) : PS X st (tLocks t) := ⟨fun pins s σ H D I ⟨n, hn⟩ => (ps_lockN h n).run pins s σ H D I hn⟩
end L2
namespace L2
open PySem PySem.Spec PyProof.Rows
/-- a statement's value; a comprehension's scope -/
def stVal : Stmt → Expr
  | .Assign _ v _ => v
  | .Return (some v) _ => v
  | _ => .Name "" ⟨0, 0, 0, 0⟩
def cmpSc (d : Scope) : Expr → Scope
  | .ListComp _ _ s _ => s
  | .DictComp _ _ _ s _ => s
  | _ => d
/-! ### a dict that nobody else writes is locked for good -/
def tFrz (t : TE) : TE := fun σ H Q => t σ H fun x H1 => ∃ d u, x = .ref d ∧ H1 d = some u ∧ Mut (some u) ∧ ∀ od, Q (.ref d) (upd H1 d (.frz od u))
theorem pe_frz {X : Cx} {e : Expr} {t : TE} (h : PE X e t) : PE X e (tFrz t) := by
  refine ⟨fun pins s σ H Q I hw => ?_⟩
  refine thn (h.run pins s σ H _ I hw) fun v s1 ⟨x, H1, I1, r, d, u, ex, hd, mu, q⟩ => ?_
  subst ex
  obtain ⟨od, I2⟩ := I1.lock hd mu
  exact ⟨.ref d, _, I2, r, q od⟩
end L2
namespace L2
open PySem PySem.Spec PyProof.Rows
/-- within a comprehension the reading must not speak of the block's own context -/
theorem pi_listK {X : Cx} {tg l : Expr} {tl : TE} {K : PySem.W.Frag} (e : X.K = K) (hl : PE X l tl) : PI X tg l (iList K tl) := by
  subst e
  exact pi_list hl
theorem pg_tupK {X : Cx} {es : List Expr} {k : Nat} {pos : Pos} {t : TGs} {K : PySem.W.Frag} (n : Nat) (hc : X.calm = true) (e : X.K = K) (h : PGs X es t)
    (hn : (assignEach es X.env).length = n := by rfl) (hst : (assignEach es X.env).findIdx? (·.1) = none := by rfl) : PG X (.Tuple es k pos) (gTup K n t) := by
  subst e
  exact pg_tup hc h hn hst
theorem pi_tupK {X : Cx} {tg l : Expr} {tl : TE} {K : PySem.W.Frag} (e : X.K = K) (hl : PE X l tl) : PI X tg l (iTup K tl) := by
  subst e
  exact pi_tup hl
/-- tuple(list), tuple(tuple), told without the block -/
def rTupS (K : PySem.W.Frag) : List V → Hp → VK → Prop := fun xs H Q => ∃ p ys, xs = [.ref p] ∧ ((SqL K H p ys ∧ ∀ l, H l = none → Q (.ref l) (upd H l (.tup ys))) ∨ (SqT K H p ys ∧ Q (.ref p) H))
end L2
namespace L2
open PySem PySem.Spec PyProof.Rows
/-! ### == of dicts whose keys are tuples, and of dicts that hold such dicts -/
section
open PySem.W PySem.SeqAt
variable {prog : Program} {w : World} {κ : Type} [DecidableEq κ] {knd : HeapKind prog w κ} {A : Around} {E : Value → Shared → Prop} {s : Shared}
def pairH (x : κ × Addr × Value) : κ × Value := (x.1, x.2.2)
theorem valH (xs : List (κ × Addr × Value)) (k : κ) : valueAt (xs.map pairH) k = (atKey xs k).map (·.2) := by
  unfold valueAt atKey
  rw [List.find?_map]
  show ((xs.find? fun x => decide (x.1 = k)).map pairH).map (·.2) = _
  cases xs.find? (fun x => decide (x.1 = k)) <;> rfl
/-- what is left of the first dict's pairs, from the j-th on -/
def RestH (kb : List (κ × Addr × Value)) (ka : List (κ × Addr × Value)) (many : Nat) (out : Bool) (A : Around) (s : Shared) (todo : List Nat) : Prop :=
  ∃ j, todo = List.range' j (many - j) ∧ j ≤ many ∧ KeqHitsIn prog w A s (kb.map pairH) ((ka.drop j).map pairH) out
theorem range_step {x j many : Nat} {todo : List Nat} (h : x :: todo = List.range' j (many - j)) : j < many ∧ x = j ∧ todo = List.range' (j + 1) (many - (j + 1)) := by
  cases d : many - j with
  | zero =>
    rw [d] at h
    exact nomatch h
  | succ z =>
    rw [d, List.range'_succ] at h
    obtain ⟨h1, h2⟩ := List.cons.inj h
    exact ⟨by omega, h1, by rw [h2]; congr 1; omega⟩
theorem range_done {j many : Nat} (h : ([] : List Nat) = List.range' j (many - j)) (hj : j ≤ many) : j = many := by
  cases d : many - j with
  | zero => omega
  | succ z =>
    rw [d, List.range'_succ] at h
    exact nomatch h
theorem samePairsH {nm : String} {a b : Addr} {ka kb : List (κ × Addr × Value)} {r : Bool} {Q : Bool → Shared → Prop} (ha : (a == sysModules) = false) (hb : (b == sysModules) = false)
    (da : s.heap.DictOfH knd a ka) (db : s.heap.DictOfH knd b kb) (hu : knd.room A) (hits : ka.length = kb.length → KeqHitsIn prog w A s (kb.map pairH) (ka.map pairH) r) (h : Q (ka.length == kb.length && r) s) :
    wpAny (model prog w) A (Builtin.Dict.samePairs nm a b) Q E s := by
  obtain ⟨o1, tab1, c1, look1, _, dat1, lay1, key1, _⟩ := da
  obtain ⟨o2, tab2, c2, look2, _, dat2, lay2, key2, dif2⟩ := db
  have z1 := size_of_entries lay1
  have z2 := size_of_entries lay2
  have n1 : ¬ (a == sysModules) = true := by simp [ha]
  have n2 : ¬ (b == sysModules) = true := by simp [hb]
  unfold Builtin.Dict.samePairs Builtin.Dict.showsAll
  rw [if_neg n1, if_neg n2]
  refine wpAny_bind <| wpAny_pure <| wpAny_bind <| wpAny_pure <| wpAny_bind <| wpAny_dictEntries look1 dat1 ?_
  dsimp only
  refine wpAny_bind <| wpAny_dictEntries look2 dat2 ?_
  by_cases same : tab1.size = tab2.size
  · have q0 : Q r s := by
      have e : (ka.length == kb.length) = true := by rw [beq_iff_eq]; omega
      rw [e, Bool.true_and] at h
      exact h
    rw [if_neg (by simp [same])]
    refine wpAny_bind <| wpAny_dictEpoch look1 dat1 <| wpAny_bind ?_
    rw [Std.Legacy.Range.forIn_eq_forIn_range']
    simp only [Std.Legacy.Range.size, Nat.sub_zero, Nat.add_sub_cancel, Nat.div_one]
    refine wpAny_forIn_list _ (fun todo st s' => s' = s ∧ st = (none, ()) ∧ RestH (prog := prog) (w := w) kb ka tab1.size r A s todo) _ (fun x todo st s' hp => ?_) (fun st s' hp => ?_) _ _ ⟨rfl, rfl, 0, by simp, Nat.zero_le _, hits (by omega)⟩
    · obtain ⟨rfl, rfl, j, hj, _, rest⟩ := hp
      obtain ⟨lt, rfl, hj2⟩ := range_step hj
      have lt' : x < ka.length := by omega
      refine wpAny_bind <| wpAny_dictEntries look1 dat1 ?_
      have at1 : tab1[x]? = some (entryOfKey knd ka[x]) := by rw [entry_at lay1 x, List.getElem?_eq_getElem lt']; rfl
      rw [at1]
      have kx := key1 _ (List.getElem_mem lt')
      rw [List.drop_eq_getElem_cons lt', List.map_cons] at rest
      show wpAny _ _ (holding [Value.ref ka[x].2.1, ka[x].2.2] _ >>= _) _ _ _
      refine wpAny_bind <| wpAny_holding <| wpAny_bind <| wpAny_dictFind_heap hu kx look2 dat2 lay2 key2 dif2 (fun miss => ?_) (fun i p hit => ?_)
      · have hv : valueAt (kb.map pairH) ka[x].1 = none := by rw [valH, atKey_none_of_get miss]; rfl
        obtain ⟨_, rfl⟩ | ⟨y, _, _, hy, _⟩ := rest.inv
        · exact wpAny_pure (by rw [if_pos (by decide)]; exact wpAny_pure (wpAny_pure q0))
        · exact nomatch hv.symm.trans hy
      · have hv : valueAt (kb.map pairH) ka[x].1 = some p.2 := by rw [valH, atKey_of_get dif2 hit]; rfl
        refine wpAny_bind <| wpAny_dictEntries look2 dat2 ?_
        rw [entry_at lay2 i, hit]
        obtain ⟨hn, _⟩ | ⟨y, t, u, hy, heq, more, rfl⟩ := rest.inv
        · exact nomatch hn.symm.trans hv
        · cases hv.symm.trans hy
          refine wpAny_holding (heq _ _ ?_)
          cases t with
          | false =>
            rw [if_pos (by decide)]
            exact wpAny_pure (wpAny_pure q0)
          | true =>
            rw [if_neg (by decide)]
            refine wpAny_bind <| wpAny_dictEpoch look1 dat1 ?_
            rw [if_neg (by simp)]
            exact wpAny_pure ⟨rfl, rfl, x + 1, hj2, lt, more⟩
    · obtain ⟨rfl, rfl, j, hj, le, rest⟩ := hp
      have := range_done hj le
      rw [this, z1, List.drop_length] at rest
      cases rest
      exact wpAny_pure q0
  · have e : (ka.length == kb.length) = false := by rw [beq_eq_false_iff_ne]; omega
    rw [e, Bool.false_and] at h
    rw [if_pos (by simp [same])]
    exact wpAny_bind (wpAny_rule (wpAny_pure h))
theorem rcH_dicts {a b : Addr} {ka kb : List (κ × Addr × Value)} {r : Bool} {Q : Value → Shared → Prop} (ha : (a == sysModules) = false) (hb : (b == sysModules) = false)
    (da : s.heap.DictOfH knd a ka) (db : s.heap.DictOfH knd b kb) (hr : knd.room A.in1) (hu : A.units < cLine) (hits : ka.length = kb.length → KeqHitsIn prog w A.in1 s (kb.map pairH) (ka.map pairH) r) (h : Q (.bool (ka.length == kb.length && r)) s) : wpAny (model prog w) A (richCompare .Eq (.ref a) (.ref b)) Q E s := by
  have told : wpAny (model prog w) A.in1 (Builtin.Dict.samePairs "dict.__eq__" a b) (fun c s' => c = (ka.length == kb.length && r) ∧ s' = s) E s := samePairsH ha hb da db hr hits ⟨rfl, rfl⟩
  have ta := da.typeIs
  have tb := db.typeIs
  refine wpAny_richCompare_same_room (op := .Eq) ta tb PySem.F.slot_dict_eq (wpAny_call_entry PySem.F.slot_dict_eq ta PySem.F.entry_dict_eq (s := s) ?_ (PySem.F.args_dict_eq_2 _ _)) hu
  show wpAny _ _ (Builtin.Dict.dictSlotArgs "__eq__" ⟨[.ref a, .ref b], []⟩ >>= _) _ _ s
  unfold Builtin.Dict.dictSlotArgs
  refine wpAny_bind <| wpAny_bind <| wpAny_notOrdered_dict ta <| wpAny_pure <| wpAny_bind <| wpAny_isInstance (T := "dict") tb PySem.F.sub_dict_dict ?_
  simp only [Bool.not_true, Bool.false_eq_true, if_false]
  refine wpAny_bind <| wpAny_pure <| wpAny_bind <| wpAny_pure <| wpAny_bind <| wpAny_mono told (fun c s' e => ?_) fun _ _ z => z
  obtain ⟨rfl, rfl⟩ := e
  exact wpAny_pure ⟨_, rfl, (fun x => nomatch x), by simpa using h⟩
end
abbrev KRow := List Key
def rowsV (us : List KRow) : List (KRow × V) := us.map fun k => (k, V.bl true)
def hasR (ls : List KRow) (u : KRow) : Bool := ls.any fun k => decide (k = u)
theorem hasR_iff {ls : List KRow} {u : KRow} : hasR ls u = true ↔ u ∈ ls := by
  unfold hasR
  rw [List.any_eq_true]
  constructor
  · rintro ⟨x, hx, e⟩
    rw [← of_decide_eq_true e]
    exact hx
  · exact fun h => ⟨u, h, decide_eq_true rfl⟩
theorem hasR_no {ls : List KRow} {u : KRow} (h : u ∉ ls) : hasR ls u = false := by
  cases e : hasR ls u with
  | false => rfl
  | true => exact absurd (hasR_iff.mp e) h
def sameRows (us ls : List KRow) : Bool := us.length == ls.length && us.all fun k => hasR ls k
def rowsIn (H : Hp) (v : V) (us : List KRow) : Prop := ∃ q, v = .ref q ∧ H q = some (.dT (rowsV us))
theorem rowsV_inj {us ls : List KRow} (h : rowsV us = rowsV ls) : us = ls := by
  have := congrArg (List.map Prod.fst) h
  unfold rowsV at this
  rw [List.map_map, List.map_map] at this
  have e : ∀ l : List KRow, l.map ((fun x => x.1) ∘ fun k => (k, V.bl true)) = l := fun l => List.map_id l
  exact (e us).symm.trans (this.trans (e ls))
theorem sameRows_self (us : List KRow) : sameRows us us = true := by
  unfold sameRows
  rw [Bool.and_eq_true, List.all_eq_true]
  exact ⟨by simp, fun k hk => hasR_iff.mpr hk⟩
section
variable {X : Cx}
theorem hitsR {pw : Program} {w : World} {H : Hp} {A : Around} {s : Shared} {ls : List KRow} {kb : List (KRow × Addr × Value)} (rb : KT H (rowsV ls) kb) : ∀ {us : List KRow} {ka : List (KRow × Addr × Value)}, KT H (rowsV us) ka → PySem.W.KeqHitsIn pw w A s (kb.map pairH) (ka.map pairH) (us.all fun k => hasR ls k)
  | [], _, r => by cases r; exact .nil
  | u :: us, _, r => by
    cases r with
    | @cons _ q _ qs h t =>
      obtain ⟨h1, h2, h3⟩ := h
      have ih := hitsR (s := s) (A := A) (pw := pw) (w := w) rb t
      rw [List.all_cons, List.map_cons]
      have hv := rb.val u
      by_cases hm : u ∈ ls
      · rw [hasR_iff.mpr hm]
        have e1 : valV (rowsV ls) u = some (.bl true) := by
          clear hv ih rb
          unfold rowsV
          induction ls with
          | nil => cases hm
          | cons x xs ih =>
            rw [List.map_cons]
            by_cases e : x = u
            · unfold valV
              simp [e]
            · rcases List.mem_cons.mp hm with z | z
              · exact absurd z.symm e
              · have := ih z
                unfold valV at this ⊢
                rw [List.find?_cons_of_neg (by simp [e])]
                exact this
        rw [e1] at hv
        obtain ⟨y, hy, ry⟩ := hv.some_of
        refine .hit (v := q.2.2) (k := q.1) (y := y) (by rw [valH, ← h1]; exact hy) ?_ ih
        exact (eqAt_sameB h3 ry rfl).inModel _ _
      · rw [hasR_no hm, Bool.false_and]
        have e1 : valV (rowsV ls) u = none := by
          unfold valV
          rw [Option.map_eq_none_iff, List.find?_eq_none]
          intro x hx e
          obtain ⟨z, hz, rfl⟩ := List.mem_map.mp hx
          exact hm (by rw [← (show z = u from of_decide_eq_true e)]; exact hz)
        rw [e1] at hv
        have hn : (atKey kb u).map (·.2) = none := by
          cases e2 : (atKey kb u).map (·.2) with
          | none => rfl
          | some _ => rw [e2] at hv; exact (show False from hv).elim
        exact .miss (v := q.2.2) (k := q.1) (by rw [valH, ← h1]; exact hn)
theorem eqIn_rows {pins : List (Addr × Obj)} {σ : L2.St} {H : Hp} {s : Shared} {A : Around} (I : Inv X pins σ H s) (hu : A.units + 2 < cLine) {q q' : Addr} {us ls : List KRow} (h1 : H q = some (.dT (rowsV us))) (h2 : H q' = some (.dT (rowsV ls))) : PySem.SeqAt.EqIn X.prog X.w A s (.ref q) (.ref q') (sameRows us ls) := by
  by_cases e : q = q'
  · subst e
    rw [h1] at h2
    have : us = ls := rowsV_inj (HO.dT.inj (Option.some.inj h2))
    subst this
    rw [sameRows_self]
    exact (SeqAt.EqAt.same _).inModel _ _
  · obtain ⟨_, ya, va, ra, da⟩ := dt_of I.hok h1
    obtain ⟨_, yb, vb, rb, db⟩ := dt_of I.hok h2
    have la : va.length = us.length := by rw [← Paired.length ra]; unfold rowsV; rw [List.length_map]
    have lb : vb.length = ls.length := by rw [← Paired.length rb]; unfold rowsV; rw [List.length_map]
    refine PySem.SeqAt.EqIn.of_refs e fun E Q hq => rcH_dicts ya yb da db (show A.units + 1 < cLine by omega) (by omega) (fun _ => hitsR rb ra) ?_
    rw [la, lb]
    exact hq
def eqRR (D : V → List KRow) (ks ls : List (Key × V)) : Bool := (ks.length == ls.length) && ks.all fun p => match valV ls p.1 with
  | none => false
  | some v => sameRows (D p.2) (D v)
theorem hitsRR {pins : List (Addr × Obj)} {σ : L2.St} {H : Hp} {s : Shared} {A : Around} (I : Inv X pins σ H s) (hu : A.units + 2 < cLine) (D : V → List KRow) {ls : List (Key × V)} {vb : List (Key × Value)} (rb : KV ls vb) (hb : ∀ p ∈ ls, rowsIn H p.2 (D p.2)) {ks : List (Key × V)} {va : List (Key × Value)} (ra : KV ks va) :
    (∀ p ∈ ks, rowsIn H p.2 (D p.2)) → PySem.W.KeqHitsIn X.prog X.w A s vb va (ks.all fun p => match valV ls p.1 with
      | none => false
      | some v => sameRows (D p.2) (D v)) := by
  unfold KV at ra
  induction ra with
  | nil => intro _; exact .nil
  | @cons p q ps qs h t ih =>
    intro hp
    obtain ⟨h1, h2⟩ := h
    obtain ⟨k, v⟩ := q
    have h1' : p.1 = k := h1
    have rr := rb.val p.1
    have ih' := ih fun p' hm => hp p' (List.mem_cons_of_mem _ hm)
    rw [List.all_cons]
    cases e : valV ls p.1 with
    | none =>
      rw [e] at rr
      have hn : valueAt vb p.1 = none := by
        cases e2 : valueAt vb p.1 with
        | none => rfl
        | some _ => rw [e2] at rr; exact (show False from rr).elim
      rw [h1'] at hn
      exact .miss hn
    | some y =>
      rw [e] at rr
      obtain ⟨u, hy, ry⟩ := rr.some_of
      rw [h1'] at hy
      have hy2 : ∃ q ∈ ls, q.2 = y := by
        unfold valV at e
        cases e3 : ls.find? fun kv => decide (kv.1 = p.1) with
        | none => rw [e3] at e; cases e
        | some q => rw [e3] at e; exact ⟨q, List.mem_of_find?_eq_some e3, Option.some.inj e⟩
      obtain ⟨z, hz, rfl⟩ := hy2
      obtain ⟨q1, e1, g1⟩ := hp p List.mem_cons_self
      obtain ⟨q2, e2, g2⟩ := hb z hz
      have r1 : v = Value.ref q1 := by
        have : RelV p.2 v := h2
        rw [e1] at this
        exact this
      have r2 : u = Value.ref q2 := by
        rw [e2] at ry
        exact ry
      rw [r2] at hy
      have hh := eqIn_rows I hu g1 g2
      rw [← r1] at hh
      exact .hit hy hh ih'
def rEqRR : R2 := fun x y H Q => ∃ (a b : Addr) (ks ls : List (Key × V)) (D : V → List KRow), x = .ref a ∧ y = .ref b ∧ H a = some (.dK ks) ∧ H b = some (.dK ls) ∧ (∀ p ∈ ks, rowsIn H p.2 (D p.2)) ∧ (∀ p ∈ ls, rowsIn H p.2 (D p.2)) ∧ Q (.bl (eqRR D ks ls)) H
theorem op_eqRR {X : Cx} (hu : X.A.units + 65 < cLine) : OpR X (compareOp .Eq) rEqRR := by
  intro pins s σ H x y v u Q I rx ry h
  obtain ⟨a, b, ks, ls, D, rfl, rfl, ea, eb, ha, hb, q⟩ := h
  obtain rfl : v = Value.ref a := rx
  obtain rfl : u = Value.ref b := ry
  obtain ⟨_, ya, va, ra, da⟩ := (show ObjOk X.prog X.w H s.heap a (.dK ks) from I.hok a _ ea)
  obtain ⟨_, yb, vb, rb, db⟩ := (show ObjOk X.prog X.w H s.heap b (.dK ls) from I.hok b _ eb)
  refine PySem.W.keq_eqIn (knd := mixKind X.prog X.w) ya yb da db (by omega) (fun _ => hitsRR I (by show X.A.units + 1 + 2 < cLine; omega) D rb hb ra ha) (fin_bl I q ?_)
  unfold eqRR
  rw [ra.length, rb.length]
end
end L2
namespace TM
open PySem PySem.Spec PyProof.Rows L2
/-! ### try with several clauses 'except C as n' -/
/-- behind a clause the slot of its name is bare again -/
def gone (D : Ends) (i : Nat) : Ends := ⟨fun σ H => D.nx (σ.set i none) H, D.rt, fun σ H => D.bk (σ.set i none) H, fun σ H => D.ct (σ.set i none) H⟩
abbrev Clause := Value × Nat × (Addr → Value → Option Addr → TS)
/-- what the clauses wish of an exception, one after the other -/
def wish (K : PySem.W.Frag) (Wout : WX) (D : Ends) : List Clause → WX
  | [] => Wout
  | q :: rest => fun cls d σ H => ∃ b, PySem.W.exmOne K cls q.1 = some b ∧ (b = true → ∀ a, H a = none → q.2.2 a cls d (gone D q.2.1) (σ.set q.2.1 (some (.ref a))) H) ∧ (b = false → wish K Wout D rest cls d σ H)
inductive Clauses (X : Cx) : List ExceptHandler → List Clause → Prop
  | nil : Clauses X [] []
  | cons {x n : Str} {c : Value} {i : Nat} {ts : Addr → Value → Option Addr → TS} {b₀ : Stmt} {suite : List Stmt} {np cpos : Pos} {more : List ExceptHandler} {l : List Clause} (at_ : X.N[i]? = some n) (loc : X.env.kindOf n = some .local) (hc : Names X x c)
      (body : ∀ (a : Addr) (oe : Obj) (cls : Value) (d : Option Addr) (pn : List (Addr × Obj)), Zc cls d oe → (∃ vs, oe.data = .fields vs) → PSs (X.suite a ((a, oe) :: pn)) (b₀ :: suite) (ts a cls d)) (rest : Clauses X more l) :
      Clauses X (.ExceptHandler (some (.Name x np)) (some n) (b₀ :: suite) cpos :: more) ((c, i, ts) :: l)
theorem Clauses.one {X : Cx} {x n : Str} {c : Value} {i : Nat} {ts : Addr → Value → Option Addr → TS} {b₀ : Stmt} {suite : List Stmt} {np cpos : Pos} {more : List ExceptHandler} {l : List Clause} (rest : Clauses X more l) (at_ : X.N[i]? = some n) (loc : X.env.kindOf n = some .local) (hc : Names X x c)
    (body : ∀ (a : Addr) (oe : Obj) (cls : Value) (d : Option Addr) (pn : List (Addr × Obj)), Zc cls d oe → (∃ vs, oe.data = .fields vs) → PSs (X.suite a ((a, oe) :: pn)) (b₀ :: suite) (ts a cls d)) : Clauses X (.ExceptHandler (some (.Name x np)) (some n) (b₀ :: suite) cpos :: more) ((c, i, ts) :: l) := .cons at_ loc hc body rest
section
variable {X : Cx}
theorem ps_try_clauses {body : List Stmt} {h₀ : ExceptHandler} {hds : List ExceptHandler} {l : List Clause} {pos : Pos} {tb : WX → TS} {Wout : WX} (hs : X.stack = X.env :: X.outer) (hf : X.env.frame = some X.env.locals) (hN : X.N.Nodup) (tk : Takes X Wout)
    (hh : Clauses X (h₀ :: hds) l)
    (hb : ∀ (W : WX) (pn : List (Addr × Obj)) (xe : Value → Shared → Prop), Takes (X.tr pn xe) W → PassesOwn (model X.prog X.w) X.A X.env xe → PSs (X.tr pn xe) body (tb W)) :
    PS X (.Try body (h₀ :: hds) [] [] pos) (fun D σ H => tb (wish X.K Wout D l) D σ H) := by
  refine ⟨fun pins s σ H D I want => ?_⟩
  have iok := I.ok
  have frames : X.A.frames = some (X.env :: X.outer) := iok.frames.trans (by rw [hs])
  refine wpAny_Try_except (wpAny_mono ((hb (wish X.K Wout D l) (X.pn ++ pins) (fun e z₁ => wpAny (model X.prog X.w) X.A (noteFrame e X.env) (fun _ z₂ => wpAny (model X.prog X.w) X.A (setFlight e none) (fun _ z₃ =>
    wpAny (model X.prog X.w) X.A (handleBy e X.env (h₀ :: hds)) (SP X pins D) X.xe z₃) X.xe z₂) X.xe z₁) (fun thrown t caught => ?_) PassesOwn.looking).run [] s σ H D (I.toTry _) want) (fun out t fine => ?_) fun _ _ z => z)
  · obtain ⟨a, B, t0, pins', σ', H', cls, d, rfl, inv0, nb, up0, air, na, os, ag, wished⟩ := caught
    have inv : Inv X pins σ' H' t0 := inv0.ofTry iok
    rw [hs] at air
    show wpAny (model X.prog X.w) X.A (noteFrame (.ref a) X.env) _ _ _
    refine Sky.land Zc.steady frames hf air fun g fl upg => ?_
    have invg : Inv X pins σ' H' { t with heap := g } := inv.landed nb fl.1 (up0.trans upg) os ag
    obtain ⟨oe, us, oeg, zc, dat⟩ := fl.there
    have apart : a ∉ frs (X.env :: X.outer) := fun hm => by
      obtain ⟨_, o2, o2g, no⟩ := fl.2.2.1.mem hm
      cases oeg.symm.trans o2g
      exact no _ dat
    have out : ∀ e ∈ X.env :: X.outer, ∀ q, e.frame = some q → a ≠ q := fun e he q hq z => apart (List.mem_filterMap.mpr ⟨e, he, by rw [hq, z]⟩)
    have nloc : a ≠ X.env.locals := out _ List.mem_cons_self _ hf
    have nfs : a ∉ X.fs := fun hm => by
      obtain ⟨e, he, q⟩ := List.mem_filterMap.mp hm
      exact out e (List.mem_cons_of_mem _ he) a q rfl
    have su := invg.suite oeg dat na nloc nfs
    suffices go : ∀ {hd : List ExceptHandler} {cl : List Clause}, Clauses X hd cl → wish X.K Wout D cl cls d σ' H' → wpAny (model X.prog X.w) X.A (handleBy (.ref a) X.env hd) (SP X pins D) X.xe { t with heap := g } from go hh wished
    intro hd cl ok
    induction ok with
    | nil =>
      intro want
      refine wpAny_handleBy_nil ?_
      obtain ⟨_, _, _, oe', us', T, _, _, oeg', _, dat', first', _⟩ := id fl
      unfold PySem.passOn
      refine wpAny_bind (wpAny_field oeg' dat' first' ?_)
      have isT : ¬ ((Value.ref T == Value.none) = true) := by simp
      rw [if_neg isT]
      have thrown : wpAny (model X.prog X.w) X.A (setFlight (.ref a) X.env.frame) (fun _ z => wpAny (model X.prog X.w) X.A (throw (.ref a) : Sem Flow) (SP X pins D) X.xe z) X.xe { t with heap := g } := by
        rw [hf]
        exact HandSPX.setFlight_upZ fl fun g4 air4 up4 => wpAny_throw (tk _ _ ⟨a, B, t0, pins, σ', H', cls, d, rfl, inv, nb, (up0.trans upg).trans up4, .inr (.inr (by rw [hs]; exact air4)), na, os, ag, want⟩)
      first
        | exact wpAny_bind (wpAny_pure (wpAny_bind thrown))
        | exact wpAny_bind thrown
    | @cons x n c i ts b₀ suite np cpos more rest' at_ loc hc bodyOk rest ih =>
      intro want
      obtain ⟨b, told, yes, no⟩ := want
      refine wpAny_handleBy_cons (codeAny_handlers_test ?_) (by intro q; cases q)
      have look : PySem.W.Looks (model X.prog X.w) g (typeOf (.ref a)) cls := fun A Q E s k q => wpAny_typeOf_ref (k _ _ oeg) (by rw [zc.1]; exact q)
      have asked := PySem.W.exm_one (M := model X.prog X.w) invg.kIn look told
      have named : ∀ {Q : Value → Shared → Prop} {E : Value → Shared → Prop}, Q c { t with heap := g } → wpAny (model X.prog X.w) (X.A.mark (some (.ref a))) (eval (.Name x np) X.env) Q E { t with heap := g } := fun {Q E} q => by
        obtain ⟨hg, dbg, hm | ⟨hm, hv, nn⟩⟩ := hc
        · exact ld_glob (X := X.suite a ((a, oe) :: (X.pn ++ pins))) su hg hm q dbg
        · exact ld_blt (X := X.suite a ((a, oe) :: (X.pn ++ pins))) su hg hm hv q nn dbg
      refine named (asked.here ?_)
      cases b with
      | false => exact ih (no rfl)
      | true =>
        refine codeAny_handlers_suite_as (HandSPX.lands_againZ fl fun g4 fl4 up4 => ?_)
        have inv4 : Inv X pins σ' H' { t with heap := g4 } := inv.landed nb fl4.1 ((up0.trans upg).trans up4) os ag
        obtain ⟨oe4, us4, oeg4, zc4, dat4⟩ := fl4.there
        have su4 := inv4.suite oeg4 dat4 na nloc nfs
        refine store_ok (X := X.suite a ((a, oe4) :: (X.pn ++ pins))) (v := .ref a) su4 hN at_ (.inl loc) rfl (fun t5 su5 => ?_) (.inr loc)
        have bare : ∀ {σ6 : L2.St} {H6 : Hp} {t6 : Shared} {Q : Shared → Prop}, Inv (X.suite a ((a, oe4) :: (X.pn ++ pins))) [] σ6 H6 t6 → (∀ t7, Inv X pins (σ6.set i none) H6 t7 → Q t7) →
            wpAny (model X.prog X.w) X.A (do bindName X.env n .none; unbindBehindTheSuite X.env n cpos) (fun _ t7 => Q t7) X.xe t6 := fun {σ6 H6 t6 Q} su6 hq => gone_ok (su6.unsuite iok) hN at_ loc hq
        refine wpAny_mono ((bodyOk a oe4 cls d (X.pn ++ pins) zc4 ⟨_, dat4⟩).run [] t5 _ H' _ su5 (yes rfl a na)) (fun out t6 end6 => ?_) fun _ _ z => z.elim
        cases out with
        | next => obtain ⟨_, _, su6, q6⟩ := end6; exact bare su6 fun _ inv7 => ⟨_, _, inv7, q6⟩
        | brk => obtain ⟨_, _, su6, q6⟩ := end6; exact bare su6 fun _ inv7 => ⟨_, _, inv7, q6⟩
        | cont => obtain ⟨_, _, su6, q6⟩ := end6; exact bare su6 fun _ inv7 => ⟨_, _, inv7, q6⟩
        | ret u => obtain ⟨_, _, _, su6, r6, q6⟩ := end6; exact bare su6 fun _ inv7 => ⟨_, _, _, inv7, r6, q6⟩
  · cases out with
    | next => obtain ⟨_, _, inv, q⟩ := fine; exact wpAny_execs_nil ⟨_, _, inv.ofTry iok, q⟩
    | brk => obtain ⟨_, _, inv, q⟩ := fine; exact ⟨_, _, inv.ofTry iok, q⟩
    | cont => obtain ⟨_, _, inv, q⟩ := fine; exact ⟨_, _, inv.ofTry iok, q⟩
    | ret u => obtain ⟨_, _, _, inv, r, q⟩ := fine; exact ⟨_, _, _, inv.ofTry iok, r, q⟩
end
end TM
namespace L2
open PySem PySem.Spec PyProof.Rows
/-! ### C(), an own error without a def of its own that makes it -/
theorem pmk_own0 {X : Cx} {C : Addr} {bmB : List Value} {B newId initId : String} {x : Str} {p pos : Pos} (F : ExcBaseFacts B newId initId bmB) (q : PySem.W.excIn X.K C bmB newId = true) (gC : X.mg x = some (.ref C))
    (kC : PySem.W.keepIn X.K (.ref C) = true) (r : Raises X (.ref C)) (hg : Gl X x) (hdb : (x == ("__debug__" : Str)) = false := by decide) :
    PMk X (.Call (.Name x p) [] [] pos) (fun _ H Q => Q (.ref C) none H) := by
  intro pins s σ H Q I h
  refine wpAny_Call_Name_kw (ld_glob I hg gC ?_ hdb)
  refine PySem.W.callWith_K0 I.kIn kC ?_
  show wpAny _ _ (call (.ref C) []) _ _ _
  obtain ⟨bm, N, nm, qn, bs, hdct, sn, sub, ab, col, dd, k0, k1, k2, k3, k5, mN, hC, hN, hni, T⟩ := exc_obj I.kIn q
  exact wpAny_call_exc_subT F T hC hN hni (fun h' e hm => mk_of I hm r h (I.hok.gone hm.new)) (Nat.zero_le _)
end L2
namespace L2
open PySem PySem.Spec PyProof.Rows
/-! ### a != b of two objects whose class has its own ==, and no own != -/
section
variable {M : Model} {prog : Program} {w : World} {A : Around} {E : Value → Shared → Prop} {s : Shared} {K : PySem.W.Frag} {x y C f : Addr} {ox : Obj} {od : Option Obj}
theorem ne_asked {args : List Value} {Q : Option Value → Shared → Prop} (X : K.In s.heap) (I : PySem.W.InstAt s.heap x ox C od) (hs : PySem.W.findIn K (.ref C) "__ne__" = some (some (.builtin "object.__ne__")))
    (h : wpAny M A (call (.builtin "object.__ne__") (.ref x :: args)) (fun v => Q (some v)) E s) : wpAny M A (callSpecialIfBound? (.ref x) "__ne__" args) Q E s := by
  simp only [callSpecialIfBound?, bindSpecialIfBound?]
  have tail : wpAny M A (call (.builtin "object.__ne__") ([.ref x] ++ args) >>= fun v => pure (some v)) Q E s := wpAny_bind (wpAny_mono h (fun _ _ q => wpAny_pure q) fun _ _ q => q)
  refine wpAny_holding (wpAny_bind (wpAny_bind (wpAny_bind (I.type.here ((PySem.W.looks_findIn X hs).here (wpAny_bind (wpAny_askSetting (wpAny_ite ?_))))))))
  split
  case isFalse => exact wpAny_tryCatch (wpAny_bind (wpAny_of_eq (F.cmp_object.ne.bind _) (wpAny_pure (by exact tail))))
  case isTrue => exact wpAny_bind (wpAny_of_eq (F.cmp_object.ne.bind _) (wpAny_pure (by exact tail)))
theorem ne_told {Q : Fin → Shared → Prop} (X : K.In s.heap) (I : PySem.W.InstAt s.heap x ox C od) (hu : A.units < cLine) (hs : PySem.W.findIn K (.ref C) "__eq__" = some (some (.ref f))) (hf : PySem.W.isFn K (.ref f) = true)
    (h : wpAny (model prog w) A (call (.ref f) [.ref x, .ref y]) (fun v s' => ∃ b, v = .bool b ∧ Q (.done (.ret (.bool (!b)))) s') E s) : wpAny (model prog w) A (Builtin.«object.__ne__» ⟨[.ref x, .ref y], []⟩) Q E s := by
  unfold Builtin.«object.__ne__»
  repeat (first
    | with_reducible refine wpAny_cRoomFor hu ?_
    | (refine wpAny_bind (m := callSpecialIfBound? (.ref x) (Str.ofString "__eq__") [.ref y]) (PySem.W.ifBound_K X I hs hf (wpAny_mono h (fun v s' hv => by
        obtain ⟨b, rfl, q⟩ := hv
        repeat (first | exact q | exact wpAny_pure q | (refine wpAny_bind (m := truthy (.bool _)) (wpAny_truthy_bool ?_)) | wp_step)) fun _ _ e => e)))
    | wp_step)
theorem ne_one {Q : Option Value → Shared → Prop} (X : K.In s.heap) (I : PySem.W.InstAt s.heap x ox C od) (hu : A.units + 1 < cLine) (hm : PySem.W.mroIn K C (.type "object") = some true) (hn : PySem.W.findIn K (.ref C) "__ne__" = some (some (.builtin "object.__ne__"))) (hs : PySem.W.findIn K (.ref C) "__eq__" = some (some (.ref f))) (hf : PySem.W.isFn K (.ref f) = true)
    (h : wpAny (model prog w) A.in1 (call (.ref f) [.ref x, .ref y]) (fun v s' => ∃ b, v = .bool b ∧ Q (some (.bool (!b))) s') E s) : wpAny (model prog w) A (tryCompare (.ref x) "__ne__" (.ref y)) Q E s := by
  simp only [tryCompare]
  refine wpAny_bind (ne_asked X I hn (wpAny_call (codeAny_call_builtin F.cmp_object.ne.plain F.cmpEntry_ne (PySem.W.check_slot F.cmpKind_ne F.cmpSplit_ne (I.type.andThen (PySem.W.looks_mroIn X hm)) (F.cmpArgs_ne _ _)
    (ne_told (A := A.in1) X I hu hs hf (wpAny_mono h (fun v s' hv => ?_) fun _ _ e => e))))))
  obtain ⟨b, rfl, q⟩ := hv
  first | exact ⟨b, rfl, wpAny_pure q⟩ | exact ⟨b, rfl, wpAny_pure (wpAny_pure q)⟩ | exact ⟨b, rfl, q⟩
theorem ne_rich {oy : Obj} {od' : Option Obj} {Q : Value → Shared → Prop} (X : K.In s.heap) (I : PySem.W.InstAt s.heap x ox C od) (J : PySem.W.InstAt s.heap y oy C od') (hu : A.units + 1 < cLine) (hm : PySem.W.mroIn K C (.type "object") = some true) (hn : PySem.W.findIn K (.ref C) "__ne__" = some (some (.builtin "object.__ne__"))) (hs : PySem.W.findIn K (.ref C) "__eq__" = some (some (.ref f))) (hf : PySem.W.isFn K (.ref f) = true)
    (h : wpAny (model prog w) A.in1 (call (.ref f) [.ref x, .ref y]) (fun v s' => ∃ b, v = .bool b ∧ Q (.bool (!b)) s') E s) : wpAny (model prog w) A (compareOp .NotEq (.ref x) (.ref y)) Q E s := by
  unfold compareOp richCompare
  simp only [oneThing_ref]
  refine wpAny_holding (wpAny_bind (wpAny_cRoomFor (Nat.lt_of_succ_lt hu) ?_))
  rw [cmpInfo_NotEq]
  dsimp only
  refine wpAny_bind (I.type.here (wpAny_bind (J.type.here ?_)))
  rw [show (Value.ref C != Value.ref C) = false from by simp]
  simp only [Bool.false_eq_true, if_false]
  refine wpAny_bind (wpAny_pure ?_)
  simp only [Bool.false_eq_true, if_false]
  refine wpAny_bind (ne_one X I hu hm hn hs hf (wpAny_mono h (fun v s' hv => ?_) fun _ _ e => e))
  obtain ⟨b, rfl, q⟩ := hv
  first | exact ⟨b, rfl, wpAny_pure q⟩ | exact ⟨b, rfl, wpAny_pure (wpAny_pure q)⟩
end
def rNeO (C : Addr) (sp : Sp) (E : XK) : R2 := fun x y H Q => ∃ (a b dx dy : Addr) (fs gs : List (Str × V)), x = .ref a ∧ y = .ref b ∧ H a = some (.ins C dx fs) ∧ H b = some (.ins C dy gs) ∧ sp [.ref a, .ref b] H (fun v H' => ∃ c, v = .bl c ∧ Q (.bl (!c)) H') E
theorem op_neO {X : Cx} {CX : CXT} {n : Nat} {C f : Addr} {fd : FuncData} {ps : List Str} {sp : Sp} {E : XK} (F : FnOk X.prog X.w X.K X.mg X.base CX n f fd ps sp) (hrm : Room (n + 1) X.A) (hu : X.A.units + 1 < cLine)
    (hm : PySem.W.mroIn X.K C (.type "object") = some true) (hn : PySem.W.findIn X.K (.ref C) "__ne__" = some (some (.builtin "object.__ne__"))) (hs : PySem.W.findIn X.K (.ref C) "__eq__" = some (some (.ref f))) (hf : PySem.W.isFn X.K (.ref f) = true) (hb : Binds X.K fd ps []) (hx : Passes CX X E) : OpR X (compareOp .NotEq) (rNeO C sp E) := by
  intro pins s σ H x y v u Q I rx ry h
  obtain ⟨a, b, dx, dy, fs, gs, rfl, rfl, ha, hb', hsp⟩ := h
  cases rx
  cases ry
  obtain ⟨mA, J, _⟩ := ins_get I.hok ha
  obtain ⟨mB, J', _⟩ := ins_get I.hok hb'
  obtain ⟨od, J, _⟩ := J.look
  obtain ⟨od', J', _⟩ := J'.look
  refine ne_rich I.kIn J J' hu hm hn hs hf (wpAny_mono (run_fn1 (E := fun _ => E) F hrm hb (pAt hx σ) I (us := [.ref a, .ref b]) (vs := [.ref a, .ref b]) (.cons rfl (.cons rfl .nil)) hsp) (fun r s' q => ?_) fun _ _ z => z)
  obtain ⟨w, H', I', rw', c, ew, q⟩ := q
  subst ew
  cases rw'
  exact ⟨c, rfl, .bl (!c), H', I', rfl, q⟩
end L2
namespace L2
open PySem PySem.Spec PyProof.Rows
/-- x = {..} on one line, x a local, the keys names or numbers -/
theorem ps_setDc {X : Cx} {i : Nat} {y : Str} {py : Pos} {kx vx tg iter : Expr} {ifs : List Expr} {scope : Scope} {own : List (Str × Nat)} {pos spos : Pos} {wi : TI} {g : TG} {tt : TT} {tk tv : TE} (hc : X.calm = true) (hN : X.N.Nodup) (hy : X.N[i]? = some y) (hyl : X.env.scope.names.lookup y = some .local)
    (hsw : swapsWith (.DictComp kx vx [⟨tg, iter, ifs, 0⟩] scope pos) (some (.Name y py)) spos.line X.env = pure true) (hi : PI X tg iter wi) (ok : BlkOk X.N X.env.scope scope own)
    (hg : ∀ s H C cl fp, PG (X.blk s H scope (compEnvC scope cl C X.env) fp) tg g) (ht : ∀ s H C cl fp, PTs (X.blk s H scope (compEnvC scope cl C X.env) fp) ifs tt)
    (hk : ∀ s H C cl fp, PE (X.blk s H scope (compEnvC scope cl C X.env) fp) kx tk) (he : ∀ s H C cl fp, PE (X.blk s H scope (compEnvC scope cl C X.env) fp) vx tv) (hs : ∀ x, foldedSetIterable iter X.env x = pure x := by intro _; rfl) :
    PS X (.Assign [.Name y py] (.DictComp kx vx [⟨tg, iter, ifs, 0⟩] scope pos) spos) (tAsg (tDc wi g tt tk tv (own.map (·.2))) (gName i)) := by
  refine ⟨fun pins s σ H D I h => ?_⟩
  rw [exec_Assign_Name_used _ _ _ _ hsw]
  refine wpAny_bind (wpAny_standAt (wpAny_bind ?_))
  show wpAny _ X.A (do let _ ← comprehension (.DictComp kx vx [⟨tg, iter, ifs, 0⟩] scope pos) scope X.env (firstIterPos [⟨tg, iter, ifs, 0⟩] pos) newDict false (eval iter X.env) (some (assign (.Name y py) X.env))) _ _ s
  have h : tDc wi g tt tk tv (own.map (·.2)) σ H (fun x H1 => gName i x σ H1 D.nx) := h
  refine wpAny_bind (thn (dc_core (Qf := fun _ s' => SP X pins D .next s') hc hN I hi ok hg ht hk he hs h fun L C s' m H' I' q hn f => ?_) fun _ s' hq => wpAny_pure (wpAny_pure hq))
  show wpAny _ _ (assign (.Name y py) X.env (.ref L)) _ _ _
  refine wpAny_assign_Name (store_ok2 (v := V.ref L) I' hN hy (.inl hyl) rfl (fun s2 I2 ⟨a, sb, ha⟩ => ?_) (.inr hyl))
  obtain ⟨f0, f1, f2, f3, f4, f5⟩ := f
  refine ⟨m, hn.sameBut sb (fun e => ha.elim (fun z => f1 (e.trans z)) fun z => f4 y a z e.symm), fun h3 sb3 => ?_⟩
  exact ⟨_, H', I2.turned (t' := s2.toks) (fun b o hb e => (sb3.2 b hb).trans e) f0 f1 f3 f4 f5, q⟩
end L2
namespace L2
open PySem PySem.Spec PyProof.Rows
/-- o.f, told without the block -/
theorem pe_fldK {X : Cx} {K : PySem.W.Frag} {e : Expr} {f : Str} {pos : Pos} {ta : TE} (hK : X.K = K) (he : PE X e ta) (hb : attributeBase e f X.env (eval e X.env) = eval e X.env) : PE X (.Attribute e f pos) (tFld K ta f) := by
  subst hK
  exact pe_fld he hb
end L2
namespace L2
open PySem PySem.Spec PyProof.Rows
/-! ### xs != [], whatever stands in xs -/
def rNeE : R2 := fun x y H Q => ∃ (p q : Addr) (xs : List V), x = .ref p ∧ y = .ref q ∧ H p = some (.lst xs) ∧ H q = some (.lst []) ∧ Q (.bl (!xs.isEmpty)) H
theorem op_neE {X : Cx} (hu : X.A.units < cLine) : OpR X (compareOp .NotEq) rNeE := by
  intro pins s σ H x y v u Q I rx ry h
  obtain ⟨p, p', xs, rfl, rfl, hp, hq, q⟩ := h
  cases rx
  cases ry
  obtain ⟨_, its, n1, rv, ht⟩ := (show ObjOk X.prog X.w H s.heap p (.lst xs) from I.hok _ _ hp)
  obtain ⟨_, its', n2, rv', ht'⟩ := (show ObjOk X.prog X.w H s.heap p' (.lst []) from I.hok _ _ hq)
  have e1 : s.heap.IsList p its.toArray := ⟨_, ht, rfl, n1, rfl⟩
  have e2 : s.heap.IsList p' its'.toArray := ⟨_, ht', rfl, n2, rfl⟩
  have l1 : its.toArray.size = xs.length := by rw [List.size_toArray, ← Vals.length rv]
  have l2 : its'.toArray.size = 0 := by rw [List.size_toArray, ← Vals.length rv']; rfl
  cases xs with
  | nil => 
    have l1 : its.toArray.size = 0 := l1
    refine (SeqAt.RcNeAt.lists (A := X.A) (e := fun _ => true) e1 e2 (by rw [l1, l2]) hu (fun j h1 h2 => by omega)) X.prog X.w _ _ (fin_bl I q ?_)
    rw [l1]
    rfl
  | cons z zs =>
    refine (SeqAt.RcNeAt.lists_lengths (A := X.A) e1 e2 ?_ hu) X.prog X.w _ _ (fin_bl I q rfl)
    rw [l1, l2]
    rfl
end L2
namespace My
open PySem PySem.Spec PyProof.Rows L2
def topS (i : Nat) : Stmt := PySem.Challenge.pw_cappedcalls_k40_question_forms.main.body.getD i (.Pass ⟨0, 0, 0, 0⟩)
abbrev s_InvalidQuestion___init__ : Stmt := inClass (topS 7) 0
theorem sc_InvalidQuestion___init__ : FnScope ["self", "part", "at"] ["self", "part", "at"] (defScope s_InvalidQuestion___init__) := ⟨rfl, rfl, rfl, by decide +kernel, rfl, by decide +kernel, by decide +kernel⟩
abbrev s_is_plain_int : Stmt := topS 11
theorem sc_is_plain_int : FnScope ["thing"] ["thing"] (defScope s_is_plain_int) := ⟨rfl, rfl, rfl, by decide +kernel, rfl, by decide +kernel, by decide +kernel⟩
abbrev s_is_word : Stmt := topS 12
theorem sc_is_word : FnScope ["thing", "letter"] ["thing"] (defScope s_is_word) := ⟨rfl, rfl, rfl, by decide +kernel, rfl, by decide +kernel, by decide +kernel⟩
abbrev s_is_value : Stmt := topS 13
theorem sc_is_value : FnScope ["thing"] ["thing"] (defScope s_is_value) := ⟨rfl, rfl, rfl, by decide +kernel, rfl, by decide +kernel, by decide +kernel⟩
abbrev s_is_variable : Stmt := topS 15
theorem sc_is_variable : FnScope ["thing"] ["thing"] (defScope s_is_variable) := ⟨rfl, rfl, rfl, by decide +kernel, rfl, by decide +kernel, by decide +kernel⟩
abbrev s_is_term : Stmt := topS 16
theorem sc_is_term : FnScope ["thing"] ["thing"] (defScope s_is_term) := ⟨rfl, rfl, rfl, by decide +kernel, rfl, by decide +kernel, by decide +kernel⟩
abbrev s_term_variables : Stmt := topS 17
theorem sc_term_variables : FnScope ["terms", "term"] ["terms"] (defScope s_term_variables) := ⟨rfl, rfl, rfl, by decide +kernel, rfl, by decide +kernel, by decide +kernel⟩
abbrev s_atom_variables : Stmt := topS 18
theorem sc_atom_variables : FnScope ["atoms", "_", "terms", "term"] ["atoms"] (defScope s_atom_variables) := ⟨rfl, rfl, rfl, by decide +kernel, rfl, by decide +kernel, by decide +kernel⟩
abbrev s__is_count : Stmt := topS 31
theorem sc__is_count : FnScope ["thing", "most"] ["thing", "most"] (defScope s__is_count) := ⟨rfl, rfl, rfl, by decide +kernel, rfl, by decide +kernel, by decide +kernel⟩
abbrev s__is_name_in : Stmt := topS 32
theorem sc__is_name_in : FnScope ["thing", "names"] ["thing", "names"] (defScope s__is_name_in) := ⟨rfl, rfl, rfl, by decide +kernel, rfl, by decide +kernel, by decide +kernel⟩
abbrev s__are_columns : Stmt := topS 33
theorem sc__are_columns : FnScope ["thing", "width", "least", "column"] ["thing", "width"] (defScope s__are_columns) := ⟨rfl, rfl, rfl, by decide +kernel, rfl, by decide +kernel, by decide +kernel⟩
abbrev s__is_key : Stmt := topS 34
theorem sc__is_key : FnScope ["thing", "width"] ["thing", "width"] (defScope s__is_key) := ⟨rfl, rfl, rfl, by decide +kernel, rfl, by decide +kernel, by decide +kernel⟩
abbrev s__is_service : Stmt := topS 35
theorem sc__is_service : FnScope ["thing", "tables", "table", "given", "cap"] ["thing", "tables"] (defScope s__is_service) := ⟨rfl, rfl, rfl, by decide +kernel, rfl, by decide +kernel, by decide +kernel⟩
abbrev s__is_whole_service : Stmt := topS 36
theorem sc__is_whole_service : FnScope ["service", "tables", "keys", "table", "given", "cap", "column"] ["service", "tables", "keys"] (defScope s__is_whole_service) := ⟨rfl, rfl, rfl, by decide +kernel, rfl, by decide +kernel, by decide +kernel⟩
abbrev s__check_tables : Stmt := topS 37
theorem sc__check_tables : FnScope ["tables", "name"] ["tables"] (defScope s__check_tables) := ⟨rfl, rfl, rfl, by decide +kernel, rfl, by decide +kernel, by decide +kernel⟩
abbrev s__check_keys : Stmt := topS 38
theorem sc__check_keys : FnScope ["keys", "tables", "name"] ["keys", "tables"] (defScope s__check_keys) := ⟨rfl, rfl, rfl, by decide +kernel, rfl, by decide +kernel, by decide +kernel⟩
abbrev s__check_services : Stmt := topS 39
theorem sc__check_services : FnScope ["services", "tables", "name"] ["services", "tables"] (defScope s__check_services) := ⟨rfl, rfl, rfl, by decide +kernel, rfl, by decide +kernel, by decide +kernel⟩
abbrev s__check_capped : Stmt := topS 40
theorem sc__check_capped : FnScope ["services", "tables", "keys", "capped_tables", "name", "service"] ["services", "tables", "keys"] (defScope s__check_capped) := ⟨rfl, rfl, rfl, by decide +kernel, rfl, by decide +kernel, by decide +kernel⟩
abbrev s__copied : Stmt := topS 41
theorem sc__copied : FnScope ["things", "name"] ["things"] (defScope s__copied) := ⟨rfl, rfl, rfl, by decide +kernel, rfl, by decide +kernel, by decide +kernel⟩
abbrev s_Schema___init__ : Stmt := inClass (topS 42) 0
theorem sc_Schema___init__ : FnScope ["self", "tables", "keys", "services"] ["self", "tables", "keys", "services"] (defScope s_Schema___init__) := ⟨rfl, rfl, rfl, by decide +kernel, rfl, by decide +kernel, by decide +kernel⟩
abbrev s_Schema_tables : Stmt := inClass (topS 42) 1
theorem sc_Schema_tables : FnScope ["self"] ["self"] (defScope s_Schema_tables) := ⟨rfl, rfl, rfl, by decide +kernel, rfl, by decide +kernel, by decide +kernel⟩
abbrev s_Schema___eq__ : Stmt := inClass (topS 42) 4
theorem sc_Schema___eq__ : FnScope ["self", "other"] ["self", "other"] (defScope s_Schema___eq__) := ⟨rfl, rfl, rfl, by decide +kernel, rfl, by decide +kernel, by decide +kernel⟩
abbrev s__is_atom : Stmt := topS 48
theorem sc__is_atom : FnScope ["thing"] ["thing"] (defScope s__is_atom) := ⟨rfl, rfl, rfl, by decide +kernel, rfl, by decide +kernel, by decide +kernel⟩
abbrev s__has_form : Stmt := topS 49
theorem sc__has_form : FnScope ["part", "head", "atoms", "atom"] ["part"] (defScope s__has_form) := ⟨rfl, rfl, rfl, by decide +kernel, rfl, by decide +kernel, by decide +kernel⟩
abbrev s__are_terms : Stmt := topS 50
theorem sc__are_terms : FnScope ["terms", "many", "term"] ["terms", "many"] (defScope s__are_terms) := ⟨rfl, rfl, rfl, by decide +kernel, rfl, by decide +kernel, by decide +kernel⟩
abbrev s__wrong_part : Stmt := topS 51
theorem sc__wrong_part : FnScope ["tables", "width", "part", "head", "atoms", "bound", "name", "_", "terms", "variable"] ["tables", "width", "part"] (defScope s__wrong_part) := ⟨rfl, rfl, rfl, by decide +kernel, rfl, by decide +kernel, by decide +kernel⟩
abbrev s__check_question : Stmt := topS 52
theorem sc__check_question : FnScope ["schema", "width", "parts", "tables", "at", "part", "wrong"] ["schema", "width", "parts"] (defScope s__check_question) := ⟨rfl, rfl, rfl, by decide +kernel, rfl, by decide +kernel, by decide +kernel⟩
abbrev s_Question___init__ : Stmt := inClass (topS 56) 0
theorem sc_Question___init__ : FnScope ["self", "schema", "width", "parts", "head", "atoms"] ["self", "schema", "width", "parts"] (defScope s_Question___init__) := ⟨rfl, rfl, rfl, by decide +kernel, rfl, by decide +kernel, by decide +kernel⟩
abbrev s_Question_part_list : Stmt := inClass (topS 56) 1
theorem sc_Question_part_list : FnScope ["self", "head", "atoms"] ["self"] (defScope s_Question_part_list) := ⟨rfl, rfl, rfl, by decide +kernel, rfl, by decide +kernel, by decide +kernel⟩
abbrev s__law_state : Stmt := topS 58
theorem sc__law_state : FnScope ["_law_script", "_law_k"] ["_law_script", "_law_k"] (defScope s__law_state) := ⟨rfl, rfl, rfl, by decide +kernel, rfl, by decide +kernel, by decide +kernel⟩
abbrev s__law_pick : Stmt := topS 59
theorem sc__law_pick : FnScope ["_law_state_here", "_law_many_here", "_law_number", "_law_mixed"] ["_law_state_here", "_law_many_here"] (defScope s__law_pick) := ⟨rfl, rfl, rfl, by decide +kernel, rfl, by decide +kernel, by decide +kernel⟩
abbrev s__law_word : Stmt := topS 60
theorem sc__law_word : FnScope ["_law_state_here", "_law_letters", "_law_k"] ["_law_state_here"] (defScope s__law_word) := ⟨rfl, rfl, rfl, by decide +kernel, rfl, by decide +kernel, by decide +kernel⟩
abbrev s__law_value : Stmt := topS 61
theorem sc__law_value : FnScope ["_law_state_here", "_law_kind", "_law_number"] ["_law_state_here"] (defScope s__law_value) := ⟨rfl, rfl, rfl, by decide +kernel, rfl, by decide +kernel, by decide +kernel⟩
abbrev s__law_tables : Stmt := topS 62
theorem sc__law_tables : FnScope ["_law_state_here", "_law_tables_here", "_law_k", "_law_name", "_law_one"] ["_law_state_here"] (defScope s__law_tables) := ⟨rfl, rfl, rfl, by decide +kernel, rfl, by decide +kernel, by decide +kernel⟩
abbrev s__law_term : Stmt := topS 63
theorem sc__law_term : FnScope ["_law_state_here"] ["_law_state_here"] (defScope s__law_term) := ⟨rfl, rfl, rfl, by decide +kernel, rfl, by decide +kernel, by decide +kernel⟩
abbrev s__law_part : Stmt := topS 64
theorem sc__law_part : FnScope ["_law_state_here", "_law_tables_here", "_law_width", "_law_names", "_law_atoms", "_law_safe", "_law_k", "_law_name", "_law_terms", "_law_column"] ["_law_state_here", "_law_tables_here", "_law_width"] (defScope s__law_part) := ⟨rfl, rfl, rfl, by decide +kernel, rfl, by decide +kernel, by decide +kernel⟩
abbrev s__law_is_value : Stmt := topS 65
theorem sc__law_is_value : FnScope ["_law_thing", "_law_sign"] ["_law_thing"] (defScope s__law_is_value) := ⟨rfl, rfl, rfl, by decide +kernel, rfl, by decide +kernel, by decide +kernel⟩
abbrev s__law_is_term : Stmt := topS 66
theorem sc__law_is_term : FnScope ["_law_thing"] ["_law_thing"] (defScope s__law_is_term) := ⟨rfl, rfl, rfl, by decide +kernel, rfl, by decide +kernel, by decide +kernel⟩
abbrev s__law_bad_atoms : Stmt := topS 67
theorem sc__law_bad_atoms : FnScope ["_law_atoms", "_law_atom"] ["_law_atoms"] (defScope s__law_bad_atoms) := ⟨rfl, rfl, rfl, by decide +kernel, rfl, by decide +kernel, by decide +kernel⟩
abbrev s__law_fault : Stmt := topS 68
theorem sc__law_fault : FnScope ["_law_tables_here", "_law_width", "_law_part_here", "_law_stand", "_law_name", "_law_terms", "_law_term_here", "_law_atom"] ["_law_tables_here", "_law_width", "_law_part_here"] (defScope s__law_fault) := ⟨rfl, rfl, rfl, by decide +kernel, rfl, by decide +kernel, by decide +kernel⟩
abbrev s__law_due : Stmt := topS 69
theorem sc__law_due : FnScope ["_law_tables_here", "_law_width", "_law_parts", "_law_at", "_law_part_here", "_law_fault_here"] ["_law_tables_here", "_law_width", "_law_parts"] (defScope s__law_due) := ⟨rfl, rfl, rfl, by decide +kernel, rfl, by decide +kernel, by decide +kernel⟩
abbrev s__law_bad_term : Stmt := topS 70
theorem sc__law_bad_term : FnScope ["_law_state_here", "_law_bad"] ["_law_state_here"] (defScope s__law_bad_term) := ⟨rfl, rfl, rfl, by decide +kernel, rfl, by decide +kernel, by decide +kernel⟩
abbrev s__law_put : Stmt := topS 71
theorem sc__law_put : FnScope ["_law_terms", "_law_at", "_law_term_here"] ["_law_terms", "_law_at", "_law_term_here"] (defScope s__law_put) := ⟨rfl, rfl, rfl, by decide +kernel, rfl, by decide +kernel, by decide +kernel⟩
abbrev s__law_bad_part : Stmt := topS 72
theorem sc__law_bad_part : FnScope ["_law_state_here", "_law_part_here", "_law_head", "_law_atoms", "_law_kind", "_law_whole", "_law_at", "_law_name", "_law_terms", "_law_atom"] ["_law_state_here", "_law_part_here"] (defScope s__law_bad_part) := ⟨rfl, rfl, rfl, by decide +kernel, rfl, by decide +kernel, by decide +kernel⟩
abbrev s__law_copy : Stmt := topS 73
theorem sc__law_copy : FnScope ["_law_parts", "_law_copies", "_law_part_here"] ["_law_parts"] (defScope s__law_copy) := ⟨rfl, rfl, rfl, by decide +kernel, rfl, by decide +kernel, by decide +kernel⟩
abbrev s__law_many : Stmt := topS 74
theorem sc__law_many : FnScope ["_law_state_here", "_law_many_here", "_law_parts", "e"] ["_law_state_here"] (defScope s__law_many) := ⟨rfl, rfl, rfl, by decide +kernel, rfl, by decide +kernel, by decide +kernel⟩
abbrev s__law_spoil : Stmt := topS 75
theorem sc__law_spoil : FnScope ["_law_state_here", "_law_tables_here", "_law_width", "_law_parts", "_law_changes", "_law_k", "_law_at"] ["_law_state_here", "_law_tables_here", "_law_width", "_law_parts", "_law_changes"] (defScope s__law_spoil) := ⟨rfl, rfl, rfl, by decide +kernel, rfl, by decide +kernel, by decide +kernel⟩
abbrev s__law_back : Stmt := topS 76
theorem sc__law_back : FnScope ["_law_question", "_law_schema", "_law_width", "_law_parts", "_law_back_here", "_law_kinds", "_law_part_here"] ["_law_question", "_law_schema", "_law_width", "_law_parts"] (defScope s__law_back) := ⟨rfl, rfl, rfl, by decide +kernel, rfl, by decide +kernel, by decide +kernel⟩
abbrev s_law : Stmt := topS 77
theorem sc_law : FnScope ["_law_script", "_law_state_here", "_law_changes", "_law_odd", "_law_tables_here", "_law_width", "_law_parts", "_law_schema", "_law_kept", "_law_due_here", "_law_told", "_law_base", "_law_question", "e", "_law_k"] ["_law_script"] (defScope s_law) := ⟨rfl, rfl, rfl, by decide +kernel, rfl, by decide +kernel, by decide +kernel⟩
/-- what the top has written, as the walks ask for it -/
structure Txt (K : PySem.W.Frag) (mg : Str → Option Value) (a : Nat → Addr) (d : Nat → FuncData) : Prop where
  F1700 : Fun K "__init__" "InvalidQuestion.__init__" s_InvalidQuestion___init__ (a 1700) (d 1700)
  b1700 : Binds K (d 1700) ["self", "part", "at"] []
  F11 : Fun K "is_plain_int" "is_plain_int" s_is_plain_int (a 11) (d 11)
  b11 : Binds K (d 11) ["thing"] []
  g11 : mg "is_plain_int" = some (.ref (a 11))
  F12 : Fun K "is_word" "is_word" s_is_word (a 12) (d 12)
  b12 : Binds K (d 12) ["thing"] []
  g12 : mg "is_word" = some (.ref (a 12))
  F13 : Fun K "is_value" "is_value" s_is_value (a 13) (d 13)
  b13 : Binds K (d 13) ["thing"] []
  g13 : mg "is_value" = some (.ref (a 13))
  F15 : Fun K "is_variable" "is_variable" s_is_variable (a 15) (d 15)
  b15 : Binds K (d 15) ["thing"] []
  g15 : mg "is_variable" = some (.ref (a 15))
  F16 : Fun K "is_term" "is_term" s_is_term (a 16) (d 16)
  b16 : Binds K (d 16) ["thing"] []
  g16 : mg "is_term" = some (.ref (a 16))
  F17 : Fun K "term_variables" "term_variables" s_term_variables (a 17) (d 17)
  b17 : Binds K (d 17) ["terms"] []
  g17 : mg "term_variables" = some (.ref (a 17))
  F18 : Fun K "atom_variables" "atom_variables" s_atom_variables (a 18) (d 18)
  b18 : Binds K (d 18) ["atoms"] []
  g18 : mg "atom_variables" = some (.ref (a 18))
  F31 : Fun K "_is_count" "_is_count" s__is_count (a 31) (d 31)
  b31 : Binds K (d 31) ["thing", "most"] []
  g31 : mg "_is_count" = some (.ref (a 31))
  F32 : Fun K "_is_name_in" "_is_name_in" s__is_name_in (a 32) (d 32)
  b32 : Binds K (d 32) ["thing", "names"] []
  g32 : mg "_is_name_in" = some (.ref (a 32))
  F33 : Fun K "_are_columns" "_are_columns" s__are_columns (a 33) (d 33)
  b33 : Binds K (d 33) ["thing", "width"] []
  g33 : mg "_are_columns" = some (.ref (a 33))
  F34 : Fun K "_is_key" "_is_key" s__is_key (a 34) (d 34)
  b34 : Binds K (d 34) ["thing", "width"] []
  g34 : mg "_is_key" = some (.ref (a 34))
  F35 : Fun K "_is_service" "_is_service" s__is_service (a 35) (d 35)
  b35 : Binds K (d 35) ["thing", "tables"] []
  g35 : mg "_is_service" = some (.ref (a 35))
  F36 : Fun K "_is_whole_service" "_is_whole_service" s__is_whole_service (a 36) (d 36)
  b36 : Binds K (d 36) ["service", "tables", "keys"] []
  g36 : mg "_is_whole_service" = some (.ref (a 36))
  F37 : Fun K "_check_tables" "_check_tables" s__check_tables (a 37) (d 37)
  b37 : Binds K (d 37) ["tables"] []
  g37 : mg "_check_tables" = some (.ref (a 37))
  F38 : Fun K "_check_keys" "_check_keys" s__check_keys (a 38) (d 38)
  b38 : Binds K (d 38) ["keys", "tables"] []
  g38 : mg "_check_keys" = some (.ref (a 38))
  F39 : Fun K "_check_services" "_check_services" s__check_services (a 39) (d 39)
  b39 : Binds K (d 39) ["services", "tables"] []
  g39 : mg "_check_services" = some (.ref (a 39))
  F40 : Fun K "_check_capped" "_check_capped" s__check_capped (a 40) (d 40)
  b40 : Binds K (d 40) ["services", "tables", "keys"] []
  g40 : mg "_check_capped" = some (.ref (a 40))
  F41 : Fun K "_copied" "_copied" s__copied (a 41) (d 41)
  b41 : Binds K (d 41) ["things"] []
  g41 : mg "_copied" = some (.ref (a 41))
  F5200 : Fun K "__init__" "Schema.__init__" s_Schema___init__ (a 5200) (d 5200)
  b5200 : Binds K (d 5200) ["self", "tables", "keys", "services"] []
  F5201 : Fun K "tables" "Schema.tables" s_Schema_tables (a 5201) (d 5201)
  b5201 : Binds K (d 5201) ["self"] []
  F5204 : Fun K "__eq__" "Schema.__eq__" s_Schema___eq__ (a 5204) (d 5204)
  b5204 : Binds K (d 5204) ["self", "other"] []
  F48 : Fun K "_is_atom" "_is_atom" s__is_atom (a 48) (d 48)
  b48 : Binds K (d 48) ["thing"] []
  g48 : mg "_is_atom" = some (.ref (a 48))
  F49 : Fun K "_has_form" "_has_form" s__has_form (a 49) (d 49)
  b49 : Binds K (d 49) ["part"] []
  g49 : mg "_has_form" = some (.ref (a 49))
  F50 : Fun K "_are_terms" "_are_terms" s__are_terms (a 50) (d 50)
  b50 : Binds K (d 50) ["terms", "many"] []
  g50 : mg "_are_terms" = some (.ref (a 50))
  F51 : Fun K "_wrong_part" "_wrong_part" s__wrong_part (a 51) (d 51)
  b51 : Binds K (d 51) ["tables", "width", "part"] []
  g51 : mg "_wrong_part" = some (.ref (a 51))
  F52 : Fun K "_check_question" "_check_question" s__check_question (a 52) (d 52)
  b52 : Binds K (d 52) ["schema", "width", "parts"] []
  g52 : mg "_check_question" = some (.ref (a 52))
  F6600 : Fun K "__init__" "Question.__init__" s_Question___init__ (a 6600) (d 6600)
  b6600 : Binds K (d 6600) ["self", "schema", "width", "parts"] []
  F6601 : Fun K "part_list" "Question.part_list" s_Question_part_list (a 6601) (d 6601)
  b6601 : Binds K (d 6601) ["self"] []
  F58 : Fun K "_law_state" "_law_state" s__law_state (a 58) (d 58)
  b58 : Binds K (d 58) ["_law_script", "_law_k"] []
  g58 : mg "_law_state" = some (.ref (a 58))
  F59 : Fun K "_law_pick" "_law_pick" s__law_pick (a 59) (d 59)
  b59 : Binds K (d 59) ["_law_state_here", "_law_many_here"] []
  g59 : mg "_law_pick" = some (.ref (a 59))
  F60 : Fun K "_law_word" "_law_word" s__law_word (a 60) (d 60)
  b60 : Binds K (d 60) ["_law_state_here"] []
  g60 : mg "_law_word" = some (.ref (a 60))
  F61 : Fun K "_law_value" "_law_value" s__law_value (a 61) (d 61)
  b61 : Binds K (d 61) ["_law_state_here"] []
  g61 : mg "_law_value" = some (.ref (a 61))
  F62 : Fun K "_law_tables" "_law_tables" s__law_tables (a 62) (d 62)
  b62 : Binds K (d 62) ["_law_state_here"] []
  g62 : mg "_law_tables" = some (.ref (a 62))
  F63 : Fun K "_law_term" "_law_term" s__law_term (a 63) (d 63)
  b63 : Binds K (d 63) ["_law_state_here"] []
  g63 : mg "_law_term" = some (.ref (a 63))
  F64 : Fun K "_law_part" "_law_part" s__law_part (a 64) (d 64)
  b64 : Binds K (d 64) ["_law_state_here", "_law_tables_here", "_law_width"] []
  g64 : mg "_law_part" = some (.ref (a 64))
  F65 : Fun K "_law_is_value" "_law_is_value" s__law_is_value (a 65) (d 65)
  b65 : Binds K (d 65) ["_law_thing"] []
  g65 : mg "_law_is_value" = some (.ref (a 65))
  F66 : Fun K "_law_is_term" "_law_is_term" s__law_is_term (a 66) (d 66)
  b66 : Binds K (d 66) ["_law_thing"] []
  g66 : mg "_law_is_term" = some (.ref (a 66))
  F67 : Fun K "_law_bad_atoms" "_law_bad_atoms" s__law_bad_atoms (a 67) (d 67)
  b67 : Binds K (d 67) ["_law_atoms"] []
  g67 : mg "_law_bad_atoms" = some (.ref (a 67))
  F68 : Fun K "_law_fault" "_law_fault" s__law_fault (a 68) (d 68)
  b68 : Binds K (d 68) ["_law_tables_here", "_law_width", "_law_part_here"] []
  g68 : mg "_law_fault" = some (.ref (a 68))
  F69 : Fun K "_law_due" "_law_due" s__law_due (a 69) (d 69)
  b69 : Binds K (d 69) ["_law_tables_here", "_law_width", "_law_parts"] []
  g69 : mg "_law_due" = some (.ref (a 69))
  F70 : Fun K "_law_bad_term" "_law_bad_term" s__law_bad_term (a 70) (d 70)
  b70 : Binds K (d 70) ["_law_state_here"] []
  g70 : mg "_law_bad_term" = some (.ref (a 70))
  F71 : Fun K "_law_put" "_law_put" s__law_put (a 71) (d 71)
  b71 : Binds K (d 71) ["_law_terms", "_law_at", "_law_term_here"] []
  g71 : mg "_law_put" = some (.ref (a 71))
  F72 : Fun K "_law_bad_part" "_law_bad_part" s__law_bad_part (a 72) (d 72)
  b72 : Binds K (d 72) ["_law_state_here", "_law_part_here"] []
  g72 : mg "_law_bad_part" = some (.ref (a 72))
  F73 : Fun K "_law_copy" "_law_copy" s__law_copy (a 73) (d 73)
  b73 : Binds K (d 73) ["_law_parts"] []
  g73 : mg "_law_copy" = some (.ref (a 73))
  F74 : Fun K "_law_many" "_law_many" s__law_many (a 74) (d 74)
  b74 : Binds K (d 74) ["_law_state_here"] []
  g74 : mg "_law_many" = some (.ref (a 74))
  F75 : Fun K "_law_spoil" "_law_spoil" s__law_spoil (a 75) (d 75)
  b75 : Binds K (d 75) ["_law_state_here", "_law_tables_here", "_law_width", "_law_parts", "_law_changes"] []
  g75 : mg "_law_spoil" = some (.ref (a 75))
  F76 : Fun K "_law_back" "_law_back" s__law_back (a 76) (d 76)
  b76 : Binds K (d 76) ["_law_question", "_law_schema", "_law_width", "_law_parts"] []
  g76 : mg "_law_back" = some (.ref (a 76))
  F77 : Fun K "law" "law" s_law (a 77) (d 77)
  b77 : Binds K (d 77) ["_law_script"] []
  g77 : mg "law" = some (.ref (a 77))
  cg_2 : mg "CappedError" = some (.ref (a 2))
  x_2 : OexC K (a 2)
  xf_2 : XfC K (a 2)
  xi_2 : ExcC K (a 2)
  cg_5 : mg "LimitExceeded" = some (.ref (a 5))
  x_5 : OexC K (a 5)
  xf_5 : XfC K (a 5)
  xi_5 : ExcC K (a 5)
  no_5_limit : PySem.W.findIn K (.ref (a 5)) "limit" = some none
  cg_7 : mg "InvalidQuestion" = some (.ref (a 7))
  x_7 : OexC K (a 7)
  xf_7 : XfC K (a 7)
  xi_7 : ExcC K (a 7)
  in_7 : PySem.W.findIn K (.ref (a 7)) "__init__" = some (some (.ref (a 1700)))
  ti_7 : PySem.W.typeIn K (.ref (a 1700)) = some (.type "function")
  no_7_part : PySem.W.findIn K (.ref (a 7)) "part" = some none
  no_7_at : PySem.W.findIn K (.ref (a 7)) "at" = some none
  cg_42 : mg "Schema" = some (.ref (a 42))
  cl_42 : Cls K (a 42)
  M_42 : Mk K (a 42) (a 5200)
  no_42__tables : NoAttr K (a 42) "_tables"
  no_42__keys : NoAttr K (a 42) "_keys"
  no_42__services : NoAttr K (a 42) "_services"
  cg_56 : mg "Question" = some (.ref (a 56))
  cl_56 : Cls K (a 56)
  M_56 : Mk K (a 56) (a 6600)
  no_56_schema : NoAttr K (a 56) "schema"
  no_56_width : NoAttr K (a 56) "width"
  no_56__parts : NoAttr K (a 56) "_parts"
  ic_42 : C8.InsC K (a 42)
  ne_42 : PySem.W.findIn K (.ref (a 42)) "__ne__" = some (some (.builtin "object.__ne__"))
  om_42 : PySem.W.mroIn K (a 42) (.type "object") = some true
  kit_7_2 : PySem.W.kitOne K (.ref (a 7)) (.ref (a 2)) = some true
  kif_7_5 : PySem.W.kitOne K (.ref (a 7)) (.ref (a 5)) = some false
  exm_7_7 : PySem.W.exmOne K (.ref (a 7)) (.ref (a 7)) = some true
  p_5201 : PropOf K (a 42) "tables" (a 55201) (a 5201)
  m_5204 : Meth K (a 42) "__eq__" (a 5204)
  m_6601 : Meth K (a 56) "part_list" (a 6601)
  z_abs : mg "abs" = none
  z_all : mg "all" = none
  z_bool : mg "bool" = none
  z_dict : mg "dict" = none
  z_enumerate : mg "enumerate" = none
  z_int : mg "int" = none
  z_isinstance : mg "isinstance" = none
  z_len : mg "len" = none
  z_list : mg "list" = none
  z_range : mg "range" = none
  z_sorted : mg "sorted" = none
  z_str : mg "str" = none
  z_tuple : mg "tuple" = none
  c_LONGEST_WORD : ∃ t, mg "LONGEST_WORD" = some (.int (8) t)
  c_GREATEST_VALUE : ∃ t, mg "GREATEST_VALUE" = some (.int (999999999999999999999999999999) t)
  c_MOST_TABLES : ∃ t, mg "MOST_TABLES" = some (.int (5) t)
  c_MOST_WIDTH_schemas : ∃ t, mg "MOST_WIDTH_schemas" = some (.int (4) t)
  c_MOST_SERVICES : ∃ t, mg "MOST_SERVICES" = some (.int (8) t)
  c_MOST_CAP : ∃ t, mg "MOST_CAP" = some (.int (4) t)
  c_MOST_WIDTH_questions : ∃ t, mg "MOST_WIDTH_questions" = some (.int (12) t)
  c_MOST_PARTS : ∃ t, mg "MOST_PARTS" = some (.int (4000) t)
  c_MOST_ATOMS : ∃ t, mg "MOST_ATOMS" = some (.int (5) t)
end My
namespace My
open PySem PySem.Spec PyProof.Rows L2
local macro_rules | `(tactic| walk_at "g") => `(tactic| first
  | refine ⟨_, rfl, ?_⟩
  | refine ⟨_, _, rfl, rfl, .inl ⟨by decide, by decide⟩, ?_⟩
  | refine ⟨_, _, rfl, rfl, .inr ⟨by decide, by decide⟩, ?_⟩
  | refine ⟨_, _, rfl, rfl, .inl ⟨by omega, by omega⟩, ?_⟩
  | refine ⟨_, _, rfl, rfl, ⟨by decide, by decide +kernel⟩, ?_⟩
  | refine ⟨_, _, rfl, rfl, ⟨by decide, by decide, by decide⟩, ?_⟩
  | refine ⟨_, _, rfl, rfl, (by show (0 : Int) < _; decide), ?_⟩
  | refine ⟨_, _, rfl, rfl, ?_⟩
  | refine .inl ⟨_, rfl, ?_⟩
  | refine ⟨rfl, _, rfl, ?_⟩)
local macro_rules | `(tactic| walk_at "gg") => `(tactic| repeat walk_at "g")
/-- what comes behind a statement, under a name -/
theorem seq_cut {t u : TS} {D : Ends} {σ : L2.St} {H : Hp} (h : ∀ N : L2.St → Hp → Prop, (∀ σ' H', u D σ' H' → N σ' H') → t { D with nx := N } σ H) : tSeq t u D σ H := h _ fun _ _ x => x
/-! ### the pool of draws: a list of ints at an address that every draw changes -/
def PoolAt (H : Hp) (a : Addr) : Prop := ∃ (p0 p1 p2 p3 : Int) (r : List Int), H a = some (.lst (.int p0 :: .int p1 :: .int p2 :: .int p3 :: r.map V.int)) ∧ 0 ≤ p0 ∧ 0 ≤ p1 ∧ 0 ≤ p2 ∧ p2 < 2147483647 ∧ 0 ≤ p3 ∧ r.length ≤ 63
/-- the pool at a may have changed; all else that was tracked stands -/
def Chg (a : Addr) (H H' : Hp) : Prop := PoolAt H' a ∧ ∀ b o, b ≠ a → H b = some o → H' b = some o
theorem Chg.refl {a : Addr} {H : Hp} (h : PoolAt H a) : Chg a H H := ⟨h, fun _ _ _ e => e⟩
theorem Chg.trans {a : Addr} {H H1 H2 : Hp} (x : Chg a H H1) (y : Chg a H1 H2) : Chg a H H2 := ⟨y.1, fun b o n e => y.2 b o n (x.2 b o n e)⟩
theorem Chg.new {a p : Addr} {o : HO} {H H1 : Hp} (x : Chg a H H1) (h : H1 p = none) : Chg a H (upd H1 p o) := by
  obtain ⟨⟨p0, p1, p2, p3, r, e, c⟩, k⟩ := x
  have n : a ≠ p := ne_of_none e h
  exact ⟨⟨p0, p1, p2, p3, r, by rw [upd_ne n]; exact e, c⟩, fun b u nb q => by
    have q' := k b u nb q
    rw [upd_ne (ne_of_none q' h)]
    exact q'⟩
theorem Chg.mut {a p : Addr} {o : HO} {H H1 : Hp} (x : Chg a H H1) (h : H p = none) (n : p ≠ a) : Chg a H (upd H1 p o) := by
  obtain ⟨⟨p0, p1, p2, p3, r, e, c⟩, k⟩ := x
  exact ⟨⟨p0, p1, p2, p3, r, by rw [upd_ne n.symm]; exact e, c⟩, fun b u nb q => by
    rw [upd_ne (ne_of_none q h)]
    exact k b u nb q⟩
theorem Chg.ne {a p : Addr} {H : Hp} (x : PoolAt H a) (h : H p = none) : p ≠ a := by
  obtain ⟨p0, p1, p2, p3, r, e, c⟩ := x
  exact (ne_of_none e h).symm
theorem PoolAt.same {a : Addr} {H H' : Hp} (x : PoolAt H a) (s : Same H H') : PoolAt H' a := by
  obtain ⟨p0, p1, p2, p3, r, e, c⟩ := x
  exact ⟨p0, p1, p2, p3, r, s _ _ e, c⟩
theorem same_upd {H : Hp} {p : Addr} {o : HO} (h : H p = none) : Same H (upd H p o) := fun b x e => by
  rw [upd_ne (ne_of_none e h)]
  exact e
theorem Same.on {H H' : Hp} {b : Addr} {o : HO} (s : Same H H') (e : H b = some o) : H' b = some o := s _ _ e
theorem upd_old {H : Hp} {p b : Addr} {o u : HO} (h : H p = none) (e : H b = some u) : upd H p o b = some u := by
  rw [upd_ne (ne_of_none e h)]
  exact e
theorem upd_oldN {H : Hp} {p b : Addr} {o u : HO} (n : b ≠ p) (e : H b = some u) : upd H p o b = some u := by
  rw [upd_ne n]
  exact e
theorem free_of {a p : Addr} {H H1 : Hp} (x : Chg a H H1) (h0 : PoolAt H a) (h : H1 p = none) : H p = none := by
  cases e : H p with
  | none => rfl
  | some o =>
    by_cases n : p = a
    · subst n
      obtain ⟨⟨p0, p1, p2, p3, r, e, c⟩, _⟩ := x
      rw [e] at h
      cases h
    · rw [x.2 p o n e] at h
      cases h
theorem ixN_at {n j : Nat} (h : j < n) : ixN n (j : Int) = some j := by
  unfold ixN
  rw [if_pos (by omega), if_pos (by omega)]
  simp
theorem ite_d {p A B : Prop} [Decidable p] (h1 : p → A) (h2 : ¬ p → B) : if decide p = true then A else B := by
  by_cases h : p
  · rw [if_pos (decide_eq_true h)]
    exact h1 h
  · rw [if_neg (by rw [decide_eq_false h]; decide)]
    exact h2 h
theorem ite_nd {p A B : Prop} [Decidable p] (h1 : ¬ p → A) (h2 : p → B) : if (!decide p) = true then A else B := by
  by_cases h : p
  · rw [if_neg (by rw [decide_eq_true h]; decide)]
    exact h2 h
  · rw [if_pos (by rw [decide_eq_false h]; decide)]
    exact h1 h
theorem ite_eqI {i j : Int} {A B : Prop} (h1 : i = j → A) (h2 : i ≠ j → B) : if decide (V.int i = V.int j) = true then A else B := ite_d (fun h => h1 (V.int.inj h)) (fun h => h2 fun e => h (congrArg V.int e))
theorem int_at {q0 q1 q2 q3 : Int} {r : List Int} {i : Nat} (h : i < (V.int q0 :: .int q1 :: .int q2 :: .int q3 :: r.map V.int).length) : ∃ c, (V.int q0 :: .int q1 :: .int q2 :: .int q3 :: r.map V.int)[i]? = some (.int c) := by
  have e : (V.int q0 :: .int q1 :: .int q2 :: .int q3 :: r.map V.int) = (q0 :: q1 :: q2 :: q3 :: r).map V.int := rfl
  rw [e] at h ⊢
  rw [List.length_map] at h
  exact ⟨_, by rw [List.getElem?_map, List.getElem?_eq_getElem h]; rfl⟩
theorem map_at {α β : Type} {f : α → β} {xs : List α} {i : Nat} {y : β} (h : (xs.map f)[i]? = some y) : ∃ x, xs[i]? = some x ∧ f x = y := by
  rw [List.getElem?_map] at h
  cases e : xs[i]? with
  | none =>
    rw [e] at h
    cases h
  | some x =>
    rw [e] at h
    exact ⟨x, rfl, Option.some.inj h⟩
theorem map_take {α β : Type} {f : α → β} {xs : List α} {i : Nat} {x : α} (h : xs[i]? = some x) : (xs.take (i + 1)).map f = (xs.take i).map f ++ [f x] := by
  rw [List.take_add_one, h, List.map_append]
  rfl
theorem small1000' {n : Nat} (h : n ≤ 1000) : n ≤ sizeLine := Nat.le_of_lt (small1000 h)
theorem hu_of64 {A : Around} {k : Nat} (hr : Room k A) : A.units + 64 < cLine := Nat.lt_of_le_of_lt (Nat.add_le_add_left (by omega : 64 ≤ 16 * k + 200) _) (by have := hr.un; omega)
theorem hu_of65 {A : Around} {k : Nat} (hr : Room k A) : A.units + 65 < cLine := Nat.lt_of_le_of_lt (Nat.add_le_add_left (by omega : 65 ≤ 16 * k + 200) _) (by have := hr.un; omega)
theorem hu_of80 {A : Around} {k : Nat} (hr : Room k A) : A.units + 80 < cLine := Nat.lt_of_le_of_lt (Nat.add_le_add_left (by omega : 80 ≤ 16 * k + 200) _) (by have := hr.un; omega)
theorem at_g {α : Type} {xs : List α} {z : Int} {j : Nat} {v : α} (e : z = (j : Int)) (h : xs[j]? = some v) : atI xs z = some v := by
  rw [e]
  exact atI_nat h
theorem at_some {α : Type} {xs : List α} {z : Int} (h0 : 0 ≤ z) (h1 : z < xs.length) : ∃ v, atI xs z = some v := by
  have h2 : z.toNat < xs.length := by omega
  exact ⟨_, at_g (show z = ((z.toNat : Nat) : Int) by omega) (List.getElem?_eq_getElem h2)⟩
theorem atI_mem {α : Type} {xs : List α} {z : Int} {v : α} (h : atI xs z = some v) : v ∈ xs := by
  unfold atI at h
  cases e : ixN xs.length z with
  | none =>
    rw [e] at h
    cases h
  | some j =>
    rw [e] at h
    exact List.mem_of_getElem? h
theorem cutS_mem {z : Str} {lo hi : Option Int} {c : Nat} (h : c ∈ (cutS z lo hi).cps.toList) : c ∈ z.cps.toList := by
  unfold cutS at h
  exact List.mem_of_mem_drop (List.mem_of_mem_take h)
theorem letter_at : ∀ j : Nat, j < 26 → ("abcdefghijklmnopqrstuvwxyz" : Str).cps.toList[j]? = some (97 + j) := by decide +kernel
def Oth (a : Addr) (H H' : Hp) : Prop := ∀ b o, b ≠ a → H b = some o → H' b = some o
theorem Oth.refl (a : Addr) (H : Hp) : Oth a H H := fun _ _ _ e => e
theorem Oth.upd {a : Addr} {H H' : Hp} {o : HO} (x : Oth a H H') : Oth a H (upd H' a o) := fun b u n e => by
  rw [upd_ne n]
  exact x b u n e
def IsWd (s : Str) (m : Nat) : Prop := s.length = m ∧ ∀ c ∈ s.cps.toList, 97 ≤ c ∧ c ≤ 122
local macro_rules | `(tactic| walk_at "kp") => `(tactic| solve_by_elim (maxDepth := 30) [Same.on, upd_same, upd_old, upd_oldN])
/-! ### words, names -/
def Wd (s : Str) : Prop := 1 ≤ s.length ∧ s.length ≤ 8 ∧ ∀ c ∈ s.cps.toList, 97 ≤ c ∧ c ≤ 122
def sgn (c : Nat) : Str := ⟨#[c]⟩
theorem cps_app (s t : Str) : (s ++ t).cps.toList = s.cps.toList ++ t.cps.toList := by
  show (s.cps ++ t.cps).toList = _
  rw [Array.toList_append]
theorem len_cps (s : Str) : s.length = s.cps.toList.length := by
  show s.cps.size = _
  rw [Array.length_toList]
theorem len_app (s t : Str) : (s ++ t).length = s.length + t.length := by
  rw [len_cps, cps_app, List.length_append, ← len_cps, ← len_cps]
def nmOf (fr : Bool) (stem : Str) (c : Nat) : Str := if fr = true then sgn c ++ stem else stem ++ sgn c
theorem nmOf_inj {fr : Bool} {stem : Str} {c e : Nat} (h : nmOf fr stem c = nmOf fr stem e) : c = e := by
  have h' := congrArg (fun s : Str => s.cps.toList) h
  cases fr with
  | true =>
    have h2 : (sgn c ++ stem).cps.toList = (sgn e ++ stem).cps.toList := h'
    rw [cps_app, cps_app] at h2
    exact (List.cons.inj h2).1
  | false =>
    have h2 : (stem ++ sgn c).cps.toList = (stem ++ sgn e).cps.toList := h'
    rw [cps_app, cps_app] at h2
    exact (List.cons.inj (List.append_cancel_left h2)).1
theorem nmOf_wd {fr : Bool} {stem : Str} {n c : Nat} (h : IsWd stem n) (hn : n ≤ 7) (h1 : 97 ≤ c) (h2 : c ≤ 122) : Wd (nmOf fr stem c) := by
  have l1 : (sgn c).length = 1 := rfl
  have hl := h.1
  have hs : ∀ x ∈ (sgn c).cps.toList, 97 ≤ x ∧ x ≤ 122 := fun x hx => by
    rw [List.mem_singleton.mp hx]
    exact ⟨h1, h2⟩
  cases fr with
  | true =>
    refine ⟨?_, ?_, fun x hx => ?_⟩
    · show 1 ≤ (sgn c ++ stem).length
      rw [len_app]
      omega
    · show (sgn c ++ stem).length ≤ 8
      rw [len_app]
      omega
    · have hx' : x ∈ (sgn c ++ stem).cps.toList := hx
      rw [cps_app] at hx'
      exact (List.mem_append.mp hx').elim (hs x) (h.2 x)
  | false =>
    refine ⟨?_, ?_, fun x hx => ?_⟩
    · show 1 ≤ (stem ++ sgn c).length
      rw [len_app]
      omega
    · show (stem ++ sgn c).length ≤ 8
      rw [len_app]
      omega
    · have hx' : x ∈ (stem ++ sgn c).cps.toList := hx
      rw [cps_app] at hx'
      exact (List.mem_append.mp hx').elim (h.2 x) (hs x)
/-- names of m things: words, no two alike -/
structure Nms (ns : List Str) (m : Nat) : Prop where
  len : ns.length = m
  nd : ns.Nodup
  wd : ∀ s ∈ ns, Wd s
def signAt (f s : Int) (k : Nat) : Nat := 97 + ((f + s * (k : Int)) % 26).toNat
theorem signAt_le (f s : Int) (k : Nat) : 97 ≤ signAt f s k ∧ signAt f s k ≤ 122 := by
  unfold signAt
  have h1 := Int.emod_nonneg (f + s * (k : Int)) (by decide : (26 : Int) ≠ 0)
  have h2 := Int.emod_lt_of_pos (f + s * (k : Int)) (by decide : (0 : Int) < 26)
  omega
theorem signAt_inj {f s : Int} (hs : s ∈ ([1, 3, 5, 7, 9, 11] : List Int)) {i j : Nat} (hi : i < 26) (hj : j < 26) (h : signAt f s i = signAt f s j) : i = j := by
  unfold signAt at h
  have h1 := Int.emod_nonneg (f + s * (i : Int)) (by decide : (26 : Int) ≠ 0)
  have h2 := Int.emod_nonneg (f + s * (j : Int)) (by decide : (26 : Int) ≠ 0)
  have e : (f + s * (i : Int)) % 26 = (f + s * (j : Int)) % 26 := by omega
  simp only [List.mem_cons, List.not_mem_nil, or_false] at hs
  rcases hs with rfl | rfl | rfl | rfl | rfl | rfl <;> omega
def namesOf (fr : Bool) (stem : Str) (f s : Int) (m : Nat) : List Str := (List.range m).map fun k => nmOf fr stem (signAt f s k)
theorem namesOf_succ (fr : Bool) (stem : Str) (f s : Int) (m : Nat) : namesOf fr stem f s (m + 1) = namesOf fr stem f s m ++ [nmOf fr stem (signAt f s m)] := by
  unfold namesOf
  rw [List.range_succ, List.map_append]
  rfl
theorem nodup_map {α β : Type} {f : α → β} : ∀ {xs : List α}, xs.Nodup → (∀ x ∈ xs, ∀ y ∈ xs, f x = f y → x = y) → (xs.map f).Nodup
  | [], _, _ => List.nodup_nil
  | x :: xs, hd, hi => by
    have hd' := List.nodup_cons.mp hd
    rw [List.map_cons]
    refine List.nodup_cons.mpr ⟨fun hm => ?_, nodup_map hd'.2 fun y hy z hz => hi y (List.mem_cons_of_mem _ hy) z (List.mem_cons_of_mem _ hz)⟩
    obtain ⟨y, hy, e⟩ := List.mem_map.mp hm
    have := hi y (List.mem_cons_of_mem _ hy) x (List.mem_cons_self ..) e
    rw [this] at hy
    exact hd'.1 hy
theorem namesOf_ok {fr : Bool} {stem : Str} {n : Nat} {f s : Int} {m : Nat} (h : IsWd stem n) (hn : n ≤ 7) (hs : s ∈ ([1, 3, 5, 7, 9, 11] : List Int)) (hm : m ≤ 26) : Nms (namesOf fr stem f s m) m := by
  refine ⟨by unfold namesOf; rw [List.length_map, List.length_range], nodup_map List.nodup_range fun x hx y hy e => ?_, fun z hz => ?_⟩
  · exact signAt_inj hs (Nat.lt_of_lt_of_le (List.mem_range.mp hx) hm) (Nat.lt_of_lt_of_le (List.mem_range.mp hy) hm) (nmOf_inj e)
  · obtain ⟨k, hk, rfl⟩ := List.mem_map.mp hz
    exact nmOf_wd h hn (signAt_le f s k).1 (signAt_le f s k).2
section
variable {P : Program} {w : World} {K : PySem.W.Frag} {mg : Str → Option Value} {base : Heap} {a : Nat → Addr} {d : Nat → FuncData}
/-! ### _law_names -/
def spNames : Sp := fun vs H Q _ => ∃ (p : Addr) (m : Nat), vs = [.ref p, .int (m : Int)] ∧ PoolAt H p ∧ m ≤ 26 ∧
  ∀ (l : Addr) (ns : List Str) (H' : Hp), H l = none → H' l = some (.lst (ns.map V.str)) → Nms ns m → Chg p H H' → Q (.ref l) H'
/-! ### _law_columns -/
def Cols (cs : List Int) (w : Int) : Prop := cs.Pairwise (· < ·) ∧ ∀ c ∈ cs, 0 ≤ c ∧ c < w
theorem Cols.take {cs : List Int} {w : Int} (h : Cols cs w) (n : Nat) : Cols (cs.take n) w := ⟨h.1.sublist (List.take_sublist n cs), fun c hc => h.2 c (List.mem_of_mem_take hc)⟩
theorem Cols.snoc {cs : List Int} {i : Nat} (h : Cols cs (i : Int)) : Cols (cs ++ [(i : Int)]) ((i + 1 : Nat) : Int) := by
  refine ⟨List.pairwise_append.mpr ⟨h.1, List.pairwise_singleton _ _, fun x hx y hy => ?_⟩, fun c hc => ?_⟩
  · rw [List.mem_singleton.mp hy]
    exact (h.2 x hx).2
  · rcases List.mem_append.mp hc with h' | h'
    · have := h.2 c h'
      omega
    · rw [List.mem_singleton.mp h']
      omega
theorem Cols.up {cs : List Int} {v w : Int} (h : Cols cs v) (hw : v ≤ w) : Cols cs w := ⟨h.1, fun c hc => ⟨(h.2 c hc).1, Int.lt_of_lt_of_le (h.2 c hc).2 hw⟩⟩
theorem cut_take (xs : List V) (n : Nat) : cutV xs none (some (n : Int)) = xs.take n := by
  unfold cutV
  show (xs.drop 0).take (HT.sIx xs.length xs.length (some (n : Int)) - 0) = _
  rw [List.drop_zero, Nat.sub_zero]
  rw [HT.sIx_nat]
  by_cases h : n ≤ xs.length
  · rw [Nat.min_eq_left h]
  · rw [Nat.min_eq_right (by omega), List.take_length, List.take_of_length_le (by omega)]
def spCols : Sp := fun vs H Q _ => ∃ (p : Addr) (w lo : Int) (hi : Nat), vs = [.ref p, .int w, .int lo, .int (hi : Int)] ∧ PoolAt H p ∧ 1 ≤ w ∧ w ≤ 100 ∧ lo ≤ 1 ∧
  ∀ (t : Addr) (cs : List Int) (H' : Hp), H t = none → H' t = some (.tup (cs.map V.int)) → Cols cs w → cs.length ≤ hi → (lo = 1 → 1 ≤ hi → 1 ≤ cs.length) → Chg p H H' → Q (.ref t) H'
/-! ### _law_tables -/
def tabK (ts : List (Str × Int)) : List (Key × V) := ts.map fun p => (Sum.inr p.1, V.int p.2)
structure Tabs (ts : List (Str × Int)) (m : Nat) (wm : Int) : Prop where
  nm : Nms (ts.map (·.1)) m
  wd : ∀ p ∈ ts, 1 ≤ p.2 ∧ p.2 ≤ wm
theorem Tabs.len {ts : List (Str × Int)} {m : Nat} {wm : Int} (h : Tabs ts m wm) : ts.length = m := by
  rw [← h.nm.len, List.length_map]
theorem valV_no {κ : Type} [DecidableEq κ] {k : κ} : ∀ {kvs : List (κ × V)}, k ∉ kvs.map (·.1) → valV kvs k = none
  | [], _ => rfl
  | p :: r, h => by
    rw [List.map_cons] at h
    rw [valV_neg (fun e => h (by rw [e]; exact List.mem_cons_self ..))]
    exact valV_no fun hm => h (List.mem_cons_of_mem _ hm)
theorem nd_take {α : Type} {xs : List α} {i : Nat} {x : α} (h : xs.Nodup) (hx : xs[i]? = some x) : x ∉ xs.take i := fun hm => by
  have e : (xs.take (i + 1)).Nodup := h.sublist (List.take_sublist _ _)
  rw [List.take_add_one, hx] at e
  exact (List.nodup_append.mp e).2.2 x hm x (by simp) rfl
theorem keys_tab (ts : List (Str × Int)) : (tabK ts).map (·.1) = (ts.map (·.1)).map Sum.inr := by
  unfold tabK
  rw [List.map_map, List.map_map]
  rfl
theorem inr_nd {ns : List Str} (h : ns.Nodup) : (ns.map (Sum.inr : Str → Key)).Nodup := nodup_map h fun _ _ _ _ e => Sum.inr.inj e
theorem inr_no {ns : List Str} {n : Str} (h : n ∉ ns) : (Sum.inr n : Key) ∉ ns.map Sum.inr := fun hm => by
  obtain ⟨x, hx, e⟩ := List.mem_map.mp hm
  rw [← Sum.inr.inj e] at h
  exact h hx
theorem tab_at {H : Hp} {t : Addr} {ts : List (Str × Int)} {n : Str} {w : Int} (e : H t = some (.dK (tabK ts))) (nd : (ts.map (·.1)).Nodup) (h : (n, w) ∈ ts) : DGet H t (.str n) (some (.int w)) := by
  have g := DGet.k (k := Sum.inr n) e
  have v : valV (tabK ts) (Sum.inr n) = some (.int w) := val_nodup (kvs := tabK ts) (by rw [keys_tab]; exact inr_nd nd) (Sum.inr n, V.int w) (List.mem_map.mpr ⟨(n, w), h, rfl⟩)
  rw [v] at g
  exact g
theorem snoc_map {α β : Type} (f : α → β) (xs : List α) (x : α) : (xs ++ [x]).map f = xs.map f ++ [f x] := by
  rw [List.map_append]
  rfl
theorem Chg.at {p b : Addr} {H H' : Hp} {o : HO} (c : Chg p H H') (n : b ≠ p) (e : H b = some o) : H' b = some o := c.2 b o n e
theorem pool_ne {H : Hp} {p b : Addr} {o : HO} (h : PoolAt H p) (e : H b = some o) (x : ∀ xs, o ≠ .lst xs) : b ≠ p := by
  obtain ⟨p0, p1, p2, p3, r, e', c⟩ := h
  exact ne_of e e' (x _)
def spTables : Sp := fun vs H Q _ => ∃ (p : Addr) (m : Nat) (wm : Int), vs = [.ref p, .int (m : Int), .int wm] ∧ PoolAt H p ∧ m ≤ 26 ∧ 1 ≤ wm ∧ wm ≤ 100 ∧
  ∀ (t : Addr) (ts : List (Str × Int)) (H' : Hp), H t = none → H' t = some (.dK (tabK ts)) → Tabs ts m wm → Chg p H H' → Q (.ref t) H'
/-! ### _law_keys -/
abbrev KeyE := Str × Addr × List Int
def keyK (ks : List KeyE) : List (Key × V) := ks.map fun b => (Sum.inr b.1, V.ref b.2.1)
theorem keys_key (ks : List KeyE) : (keyK ks).map (·.1) = (ks.map (·.1)).map Sum.inr := by
  unfold keyK
  rw [List.map_map, List.map_map]
  rfl
structure Keys (H : Hp) (ts : List (Str × Int)) (ks : List KeyE) : Prop where
  nd : (ks.map (·.1)).Nodup
  le : ks.length ≤ ts.length
  at_ : ∀ b ∈ ks, H b.2.1 = some (.tup (b.2.2.map V.int))
  ok : ∀ b ∈ ks, ∃ w, (b.1, w) ∈ ts ∧ Cols b.2.2 w ∧ 1 ≤ b.2.2.length ∧ (b.2.2.length : Int) < w
theorem Keys.mono {H H' : Hp} {ts : List (Str × Int)} {ks : List KeyE} (h : Keys H ts ks) (m : ∀ b xs, H b = some (.tup xs) → H' b = some (.tup xs)) : Keys H' ts ks := ⟨h.nd, h.le, fun b hb => m _ _ (h.at_ b hb), h.ok⟩
theorem chg_tup {p : Addr} {H H' : Hp} (h : PoolAt H p) (c : Chg p H H') : ∀ b xs, H b = some (.tup xs) → H' b = some (.tup xs) := fun b xs e => c.at (pool_ne h e (by intro _ z; cases z)) e
theorem upd_tup {H : Hp} {t : Addr} {o u : HO} (h : H t = some u) (n : ∀ xs, u ≠ .tup xs) : ∀ b xs, H b = some (.tup xs) → upd H t o b = some (.tup xs) := fun b xs e => by
  rw [upd_ne (ne_of e h (fun z => n xs z.symm))]
  exact e
def spKeys : Sp := fun vs H Q _ => ∃ (p t : Addr) (m : Nat) (ts : List (Str × Int)), vs = [.ref p, .ref t] ∧ PoolAt H p ∧ H t = some (.dK (tabK ts)) ∧ Tabs ts m 100 ∧ m ≤ 26 ∧
  ∀ (k : Addr) (ks : List KeyE) (H' : Hp), H k = none → H' k = some (.dK (keyK ks)) → Keys H' ts ks → Chg p H H' → Q (.ref k) H'
/-! ### _law_is_whole -/
theorem valV_mem {κ : Type} [DecidableEq κ] {k : κ} {v : V} : ∀ {kvs : List (κ × V)}, valV kvs k = some v → (k, v) ∈ kvs
  | [], h => by cases h
  | p :: r, h => by
    by_cases e : p.1 = k
    · rw [valV_pos e] at h
      have : p = (k, v) := by rw [← e, ← Option.some.inj h]
      rw [this]
      exact List.mem_cons_self ..
    · rw [valV_neg e] at h
      exact List.mem_cons_of_mem _ (valV_mem h)
theorem perm_nd {κ : Type} {a b : List (κ × V)} (p : a.Perm b) (nd : (b.map (·.1)).Nodup) : (a.map (·.1)).Nodup := (p.map (·.1)).nodup_iff.mpr nd
theorem valV_perm {κ : Type} [DecidableEq κ] {a b : List (κ × V)} (p : a.Perm b) (nd : (b.map (·.1)).Nodup) (k : κ) : valV a k = valV b k := by
  cases h : valV b k with
  | some v => exact val_nodup (perm_nd p nd) (k, v) (p.mem_iff.mpr (valV_mem h))
  | none =>
    cases h' : valV a k with
    | none => rfl
    | some v =>
      rw [val_nodup nd (k, v) (p.mem_iff.mp (valV_mem h'))] at h
      cases h
/-- a dict at t with these pairs, in any order -/
def DctAt (H : Hp) (t : Addr) (kvs : List (Key × V)) : Prop := ∃ ks, H t = some (.dK ks) ∧ ks.Perm kvs
theorem DctAt.of {H : Hp} {t : Addr} {kvs : List (Key × V)} (h : H t = some (.dK kvs)) : DctAt H t kvs := ⟨kvs, h, .refl _⟩
theorem DctAt.same {H H' : Hp} {t : Addr} {kvs : List (Key × V)} (h : DctAt H t kvs) (s : Same H H') : DctAt H' t kvs := by
  obtain ⟨ks, e, p⟩ := h
  exact ⟨ks, s _ _ e, p⟩
theorem DctAt.get {H : Hp} {t : Addr} {kvs : List (Key × V)} (h : DctAt H t kvs) (nd : (kvs.map (·.1)).Nodup) (k : Key) : DGet H t (kV k) (valV kvs k) := by
  obtain ⟨ks, e, p⟩ := h
  have g := DGet.k (k := k) e
  rw [valV_perm p nd] at g
  exact g
theorem tab_nd {ts : List (Str × Int)} {m : Nat} {wm : Int} (h : Tabs ts m wm) : ((tabK ts).map (·.1)).Nodup := by
  rw [keys_tab]
  exact inr_nd h.nm.nd
theorem tab_val {ts : List (Str × Int)} {m : Nat} {wm : Int} {n : Str} {w : Int} (h : Tabs ts m wm) (hm : (n, w) ∈ ts) : valV (tabK ts) (Sum.inr n) = some (.int w) :=
  val_nodup (kvs := tabK ts) (tab_nd h) (Sum.inr n, V.int w) (List.mem_map.mpr ⟨(n, w), hm, rfl⟩)
theorem key_nd {H : Hp} {ts : List (Str × Int)} {ks : List KeyE} {m : Nat} {wm : Int} (hT : Tabs ts m wm) (h : Keys H ts ks) : ((keyK ks).map (·.1)).Nodup := by
  rw [keys_key]
  exact inr_nd h.nd
theorem DctAt.at_ {H : Hp} {t : Addr} {kvs : List (Key × V)} {n : Str} {v : V} (h : DctAt H t kvs) (nd : (kvs.map (·.1)).Nodup) (e : valV kvs (Sum.inr n) = some v) : DGet H t (.str n) (some v) := by
  have g := h.get nd (Sum.inr n)
  rw [e] at g
  exact g
def capV : Option Int → V
  | none => .non
  | some i => .int i
theorem capV_none (c : Option Int) : decide (capV c = .non) = c.isNone := by
  cases c <;> rfl
def keyAt (ks : List KeyE) (n : Str) : Option KeyE := ks.find? fun b => decide (b.1 = n)
theorem keyAt_val (n : Str) : ∀ ks : List KeyE, valV (keyK ks) (Sum.inr n) = (keyAt ks n).map fun b => V.ref b.2.1
  | [] => rfl
  | b :: ks => by
    have ih := keyAt_val n ks
    unfold keyAt keyK at ih ⊢
    rw [List.map_cons]
    by_cases e : b.1 = n
    · rw [valV_pos (by rw [e])]
      simp [e]
    · rw [valV_neg (fun z => e (Sum.inr.inj z)), ih]
      simp [e]
theorem keyAt_mem {ks : List KeyE} {n : Str} {b : KeyE} (h : keyAt ks n = some b) : b ∈ ks ∧ b.1 = n := by
  unfold keyAt at h
  exact ⟨List.mem_of_find?_eq_some h, by simpa using List.find?_some h⟩
def isWh (w : Int) (ks : List KeyE) (n : Str) (cols : List Int) (cap : Option Int) : Bool :=
  cap.isNone || (decide ((cols.length : Int) = w) || match keyAt ks n with
    | none => false
    | some b => b.2.2.all fun x => decide (x ∈ cols))
theorem inV_ints (c : Int) (xs : List Int) : inV (.int c) (xs.map V.int) = decide (c ∈ xs) := by
  unfold inV
  rw [List.any_map]
  apply Bool.eq_iff_iff.mpr
  rw [List.any_eq_true, decide_eq_true_iff]
  constructor
  · rintro ⟨x, hx, e⟩
    have e' : decide (x = c) = true := e
    rw [← of_decide_eq_true e']
    exact hx
  · intro h
    exact ⟨c, h, decide_eq_true rfl⟩
theorem flat_ints (xs : List Int) : (xs.map V.int).all flatV = true := by
  rw [List.all_map, List.all_eq_true]
  intro _ _
  rfl
theorem dp_ints {K : PySem.W.Frag} {H : Hp} : ∀ ns : List Int, DpAll K H (ns.map V.int) (ns.map PyData.int)
  | [] => .nil
  | n :: ns => .cons (.int n) (dp_ints ns)
theorem lay_ints : ∀ ns : List Int, PyData.canLayAll0 (ns.map PyData.int) = true ∧ PyData.depthAll (ns.map PyData.int) = 0
  | [] => by simp [PyData.canLayAll0, PyData.depthAll]
  | n :: ns => by
    obtain ⟨h1, h2⟩ := lay_ints ns
    simp only [List.map_cons, PyData.canLayAll0, PyData.depthAll, PyData.canLay0, PyData.depth, h1, h2, Bool.and_self, true_and]
    rfl
theorem ints_shaped (ns : List Int) : SeqAt.shaped (.list (ns.map PyData.int)) = true := by
  obtain ⟨h1, h2⟩ := lay_ints ns
  show ((PyData.list (ns.map PyData.int)).canLay0 && decide ((PyData.list (ns.map PyData.int)).depth ≤ 64)) = true
  simp only [PyData.canLay0, PyData.depth, h1, h2]
  decide
theorem eqv_nilL (ds : List PyData) : PyData.eqv (.list ds) (.list []) = ds.isEmpty := by
  cases ds <;> simp [PyData.eqv, PyData.eqvAll]
theorem filter_empty (cs xs : List Int) : ((cs.filter fun c => !decide (c ∈ xs)).map PyData.int).isEmpty = cs.all fun c => decide (c ∈ xs) := by
  induction cs with
  | nil => rfl
  | cons c cs ih =>
    by_cases h : c ∈ xs
    · rw [List.filter_cons_of_neg (by simp [h]), ih, List.all_cons, decide_eq_true h, Bool.true_and]
    · rw [List.filter_cons_of_pos (by simp [h]), List.all_cons, decide_eq_false h, Bool.false_and]
      rfl
structure Told (H : Hp) (v : Addr) (n : Str) (ga : Addr) (cols : List Int) (cap : Option Int) : Prop where
  tup : H v = some (.tup [.str n, .ref ga, capV cap])
  cols : H ga = some (.tup (cols.map V.int))
theorem Told.mono {H H' : Hp} {v : Addr} {n : Str} {ga : Addr} {cols : List Int} {cap : Option Int} (h : Told H v n ga cols cap) (m : ∀ b xs, H b = some (.tup xs) → H' b = some (.tup xs)) : Told H' v n ga cols cap := ⟨m _ _ h.tup, m _ _ h.cols⟩
def spWhole : Sp := fun vs H Q _ => ∃ (t k v ga : Addr) (m : Nat) (ts : List (Str × Int)) (ks : List KeyE) (n : Str) (w : Int) (cols : List Int) (cap : Option Int), vs = [.ref t, .ref k, .ref v] ∧ DctAt H t (tabK ts) ∧ DctAt H k (keyK ks) ∧ Tabs ts m 100 ∧ Keys H ts ks ∧
  Told H v n ga cols cap ∧ (n, w) ∈ ts ∧ cols.length ≤ 100 ∧ ∀ H', Same H H' → Q (.bl (isWh w ks n cols cap)) H'
/-! ### _law_services -/
structure SvE where
  name : Str
  at_ : Addr
  tab : Str
  ga : Addr
  cols : List Int
  cap : Option Int
def svK (ss : List SvE) : List (Key × V) := ss.map fun b => (Sum.inr b.name, V.ref b.at_)
theorem keys_sv (ss : List SvE) : (svK ss).map (·.1) = (ss.map (·.name)).map Sum.inr := by
  unfold svK
  rw [List.map_map, List.map_map]
  rfl
def widthAt (ts : List (Str × Int)) (n : Str) : Int := ((ts.find? fun b => decide (b.1 = n)).map (·.2)).getD 0
theorem widthAt_mem {n : Str} {w : Int} : ∀ {ts : List (Str × Int)}, (ts.map (·.1)).Nodup → (n, w) ∈ ts → widthAt ts n = w
  | b :: ts, nd, h => by
    rw [List.map_cons] at nd
    have nd' := List.nodup_cons.mp nd
    unfold widthAt
    by_cases e : b.1 = n
    · rcases List.mem_cons.mp h with h' | h'
      · rw [← h']
        simp
      · exact absurd (by rw [e]; exact List.mem_map.mpr ⟨_, h', rfl⟩) nd'.1
    · rcases List.mem_cons.mp h with h' | h'
      · exact absurd (by rw [← h']) e
      · have ih := widthAt_mem nd'.2 h'
        unfold widthAt at ih
        simpa [e] using ih
/-- is the service whole -/
def whE (ts : List (Str × Int)) (ks : List KeyE) (b : SvE) : Bool := isWh (widthAt ts b.tab) ks b.tab b.cols b.cap
def fillE (ts : List (Str × Int)) (ks : List KeyE) (ss : List SvE) : List Str := (ss.filter fun b => !whE ts ks b).map (·.tab)
theorem fillE_snoc (ts : List (Str × Int)) (ks : List KeyE) (ss : List SvE) (b : SvE) : fillE ts ks (ss ++ [b]) = fillE ts ks ss ++ (if whE ts ks b = true then [] else [b.tab]) := by
  unfold fillE
  rw [List.filter_append, List.map_append]
  cases e : whE ts ks b <;> simp [e]
structure SvOk (H : Hp) (ts : List (Str × Int)) (b : SvE) : Prop where
  told : Told H b.at_ b.tab b.ga b.cols b.cap
  ok : ∃ w, (b.tab, w) ∈ ts ∧ Cols b.cols w ∧ b.cols.length ≤ 4
  cap : ∀ c, b.cap = some c → 1 ≤ c ∧ c ≤ 4
theorem SvOk.mono {H H' : Hp} {ts : List (Str × Int)} {b : SvE} (h : SvOk H ts b) (m : ∀ b xs, H b = some (.tup xs) → H' b = some (.tup xs)) : SvOk H' ts b := ⟨h.told.mono m, h.ok, h.cap⟩
structure Svcs (H : Hp) (ts : List (Str × Int)) (ks : List KeyE) (ss : List SvE) (n : Nat) : Prop where
  nm : Nms (ss.map (·.name)) n
  ok : ∀ b ∈ ss, SvOk H ts b
  one : (fillE ts ks ss).Nodup
theorem Svcs.mono {H H' : Hp} {ts : List (Str × Int)} {ks : List KeyE} {ss : List SvE} {n : Nat} (h : Svcs H ts ks ss n) (m : ∀ b xs, H b = some (.tup xs) → H' b = some (.tup xs)) : Svcs H' ts ks ss n := ⟨h.nm, fun b hb => (h.ok b hb).mono m, h.one⟩
theorem inV_strs (n : Str) (xs : List Str) : inV (.str n) (xs.map V.str) = decide (n ∈ xs) := by
  unfold inV
  rw [List.any_map]
  apply Bool.eq_iff_iff.mpr
  rw [List.any_eq_true, decide_eq_true_iff]
  constructor
  · rintro ⟨x, hx, e⟩
    have e' : decide (x = n) = true := e
    rw [← of_decide_eq_true e']
    exact hx
  · intro h
    exact ⟨n, h, decide_eq_true rfl⟩
theorem flat_strs (xs : List Str) : (xs.map V.str).all flatV = true := by
  rw [List.all_map, List.all_eq_true]
  intro _ _
  rfl
/-- while the services are made -/
structure SvMade (p t k ca l1 l2 s f : Addr) (ts : List (Str × Int)) (ks : List KeyE) (cps : List (Option Int)) (ns : List Str) (H0 H : Hp) (ss : List SvE) (fl : List Str) : Prop where
  chg : Chg p H0 H
  sv : H s = some (.dK (svK ss))
  fil : H f = some (.lst (fl.map V.str))
  ord : H l1 = some (.lst ((ts.map (·.1)).map V.str))
  nam : H l2 = some (.lst (ns.map V.str))
  tabs : H t = some (.dK (tabK ts))
  keys : H k = some (.dK (keyK ks))
  caps : H ca = some (.lst (cps.map capV))
  kok : Keys H ts ks
  ok : ∀ b ∈ ss, SvOk H ts b
structure SvNe (p t k ca l1 l2 s f : Addr) (H0 : Hp) : Prop where
  s0 : H0 s = none
  f0 : H0 f = none
  sp : s ≠ p
  fp : f ≠ p
  cp : ca ≠ p
  p1 : l1 ≠ p
  p2 : l2 ≠ p
  f1 : l1 ≠ f
  f2 : l2 ≠ f
  fc : ca ≠ f
theorem SvMade.go {p t k ca l1 l2 s f : Addr} {ts : List (Str × Int)} {ks : List KeyE} {cps : List (Option Int)} {ns : List Str} {H0 H H' : Hp} {ss : List SvE} {fl : List Str} (h : SvMade p t k ca l1 l2 s f ts ks cps ns H0 H ss fl) (n : SvNe p t k ca l1 l2 s f H0) (c : Chg p H H') : SvMade p t k ca l1 l2 s f ts ks cps ns H0 H' ss fl := by
  have m := chg_tup h.chg.1 c
  have d : ∀ {b : Addr} {kvs : List (Key × V)}, H b = some (.dK kvs) → H' b = some (.dK kvs) := fun e => c.at (pool_ne h.chg.1 e (by intro _ z; cases z)) e
  exact ⟨h.chg.trans c, d h.sv, c.at n.fp h.fil, c.at n.p1 h.ord, c.at n.p2 h.nam, d h.tabs, d h.keys, c.at n.cp h.caps, h.kok.mono m, fun b hb => (h.ok b hb).mono m⟩
theorem SvMade.same {p t k ca l1 l2 s f : Addr} {ts : List (Str × Int)} {ks : List KeyE} {cps : List (Option Int)} {ns : List Str} {H0 H H' : Hp} {ss : List SvE} {fl : List Str} (h : SvMade p t k ca l1 l2 s f ts ks cps ns H0 H ss fl) (n : SvNe p t k ca l1 l2 s f H0) (c : Same H H') : SvMade p t k ca l1 l2 s f ts ks cps ns H0 H' ss fl :=
  h.go n ⟨h.chg.1.same c, fun b o _ e => c b o e⟩
theorem SvMade.fill {p t k ca l1 l2 s f : Addr} {ts : List (Str × Int)} {ks : List KeyE} {cps : List (Option Int)} {ns : List Str} {H0 H : Hp} {ss : List SvE} {fl gl : List Str} (h : SvMade p t k ca l1 l2 s f ts ks cps ns H0 H ss fl) (n : SvNe p t k ca l1 l2 s f H0) : SvMade p t k ca l1 l2 s f ts ks cps ns H0 (upd H f (.lst (gl.map V.str))) ss gl := by
  have m : ∀ b xs, H b = some (.tup xs) → upd H f (.lst (gl.map V.str)) b = some (.tup xs) := upd_tup h.fil (by intro _ z; cases z)
  have d : ∀ {b : Addr} {kvs : List (Key × V)}, H b = some (.dK kvs) → upd H f (.lst (gl.map V.str)) b = some (.dK kvs) := fun e => by
    rw [upd_ne (ne_of e h.fil (by intro z; cases z))]
    exact e
  exact ⟨h.chg.mut n.f0 n.fp, d h.sv, upd_same, by rw [upd_ne n.f1]; exact h.ord, by rw [upd_ne n.f2]; exact h.nam, d h.tabs, d h.keys, by rw [upd_ne n.fc]; exact h.caps, h.kok.mono m, fun b hb => (h.ok b hb).mono m⟩
theorem SvMade.put {p t k ca l1 l2 s f : Addr} {ts : List (Str × Int)} {ks : List KeyE} {cps : List (Option Int)} {ns : List Str} {H0 H : Hp} {ss : List SvE} {fl : List Str} {b : SvE} (h : SvMade p t k ca l1 l2 s f ts ks cps ns H0 H ss fl) (n : SvNe p t k ca l1 l2 s f H0) (ht : H0 t ≠ none) (hk : H0 k ≠ none) (hb : SvOk H ts b) :
    SvMade p t k ca l1 l2 s f ts ks cps ns H0 (upd H s (.dK (svK (ss ++ [b])))) (ss ++ [b]) fl := by
  have m : ∀ c xs, H c = some (.tup xs) → upd H s (.dK (svK (ss ++ [b]))) c = some (.tup xs) := upd_tup h.sv (by intro _ z; cases z)
  have l : ∀ {c : Addr} {xs : List V}, H c = some (.lst xs) → upd H s (.dK (svK (ss ++ [b]))) c = some (.lst xs) := fun e => by
    rw [upd_ne (ne_of e h.sv (by intro z; cases z))]
    exact e
  have nts : t ≠ s := fun e => ht (by rw [e]; exact n.s0)
  have nks : k ≠ s := fun e => hk (by rw [e]; exact n.s0)
  refine ⟨h.chg.mut n.s0 n.sp, upd_same, l h.fil, l h.ord, l h.nam, by rw [upd_ne nts]; exact h.tabs, by rw [upd_ne nks]; exact h.keys, l h.caps, h.kok.mono m, fun c hc => ?_⟩
  rcases List.mem_append.mp hc with e | e
  · exact (h.ok c e).mono m
  · rw [List.mem_singleton.mp e]
    exact hb.mono m
def spServices : Sp := fun vs H Q _ => ∃ (p t k ca : Addr) (m more : Nat) (ts : List (Str × Int)) (ks : List KeyE) (cps : List (Option Int)), vs = [.ref p, .ref t, .ref k, .ref ca, .int (more : Int)] ∧ PoolAt H p ∧ H t = some (.dK (tabK ts)) ∧ H k = some (.dK (keyK ks)) ∧ Tabs ts m 100 ∧ 1 ≤ m ∧ m + more ≤ 26 ∧ Keys H ts ks ∧
  H ca = some (.lst (cps.map capV)) ∧ ca ≠ p ∧ 1 ≤ cps.length ∧ cps.length ≤ 100 ∧ (∀ c, some c ∈ cps → 1 ≤ c ∧ c ≤ 4) ∧
  ∀ (s : Addr) (ss : List SvE) (H' : Hp), H s = none → H' s = some (.dK (svK ss)) → Svcs H' ts ks ss (m + more) → Chg p H H' → Q (.ref s) H'
end
theorem lc_str {x : Str} {g : TG} {tt : TT} {te : TE} {vs : List Nat} {σ : L2.St} {H1 : Hp} {D : Addr} {Qd : Hp → Prop} (Pv : Nat → Hp → Prop) (h0 : Pv 0 (upd H1 D (.lst [])))
    (hs : ∀ i c H, x.cps[i]? = some c → Pv i H → g (.str ⟨#[c]⟩) (wipe σ vs) H fun σ2 H2 => wipe σ2 vs = wipe σ vs ∧ tt σ2 H2 fun b H3 =>
      if b = true then te σ2 H3 fun y H4 => ∃ acc, H4 D = some (.lst acc) ∧ acc.length < sizeLine ∧ Pv (i + 1) (upd H4 D (.lst (acc ++ [y]))) else Pv (i + 1) H3) (hd : ∀ H, Pv x.cps.size H → Qd H) :
    ∃ W : Nat → Nat → Hp → Prop, (∃ m, W 0 m (upd H1 D (.lst []))) ∧ ∀ i m H, W i m H →
      ((Its x).stop i H ∧ Qd H) ∨ ((Its x).go i H ∧ ∃ Nx : Hp → Prop, (∀ H', Nx H' → ∃ m', m' < m ∧ W (i + 1) m' H') ∧ ∀ v H', (Its x).yld i H v H' → g v (wipe σ vs) H' fun σ2 H2 => wipe σ2 vs = wipe σ vs ∧ tt σ2 H2 fun b H3 =>
        if b = true then te σ2 H3 fun y H4 => ∃ acc, H4 D = some (.lst acc) ∧ acc.length < sizeLine ∧ Nx (upd H4 D (.lst (acc ++ [y]))) else Nx H3) := by
  refine ⟨fun i m H => m = x.cps.size - i ∧ i ≤ x.cps.size ∧ Pv i H, ⟨x.cps.size, by simp, Nat.zero_le _, h0⟩, ?_⟩
  rintro i m H ⟨rfl, hi, p⟩
  by_cases hlt : i < x.cps.size
  · refine .inr ⟨hlt, Pv (i + 1), fun H' p' => ⟨x.cps.size - (i + 1), by omega, rfl, hlt, p'⟩, fun v H' y => ?_⟩
    obtain ⟨e, c, hc, ev⟩ := y
    subst e
    subst ev
    exact hs i c _ hc p
  · have e : i = x.cps.size := by omega
    subst e
    exact .inl ⟨Nat.le_refl _, hd H p⟩
/-! ### words and values -/
def okC (c : Nat) : Bool := decide (97 ≤ c ∧ c ≤ 122)
def wordB (s : Str) : Bool := decide (1 ≤ s.length ∧ s.length ≤ 8) && s.cps.toList.all okC
def wordV : V → Bool
  | .str s => wordB s
  | _ => false
def valV' : V → Bool
  | .int i => decide (-999999999999999999999999999999 ≤ i ∧ i ≤ 999999999999999999999999999999)
  | .str s => wordB s
  | _ => false
inductive Thg (H : Hp) : V → Prop
  | int (i : Int) : Thg H (.int i)
  | bl (b : Bool) : Thg H (.bl b)
  | non : Thg H .non
  | str (s : Str) (h : s.length ≤ 1000) (hc : ∀ c ∈ s.cps.toList, c < 128) : Thg H (.str s)
  | lst {a : Addr} {xs : List V} (e : H a = some (.lst xs)) : Thg H (.ref a)
  | tup {a : Addr} {xs : List V} (e : H a = some (.tup xs)) : Thg H (.ref a)
theorem Thg.same {H H' : Hp} {v : V} (h : Thg H v) (s : Same H H') : Thg H' v := by
  cases h with
  | int i => exact .int i
  | bl b => exact .bl b
  | non => exact .non
  | str s h hc => exact .str s h hc
  | lst e => exact .lst (s _ _ e)
  | tup e => exact .tup (s _ _ e)
def tyInt : V → Bool
  | .int _ => true
  | .bl _ => true
  | _ => false
def tyBool : V → Bool
  | .bl _ => true
  | _ => false
def plainV (v : V) : Bool := tyInt v && !tyBool v
def tyStr : V → Bool
  | .str _ => true
  | _ => false
section
variable {K : PySem.W.Frag} {H : Hp} {v : V} {Q : VK}
theorem Thg.ty (h : Thg H v) : ∃ n, TyX K H v (.type n) ∧ kitB n "int" = some (tyInt v) ∧ kitB n "bool" = some (tyBool v) ∧ kitB n "str" = some (tyStr v) := by
  cases h with
  | int i => exact ⟨_, .base (.int _), show kitB "int" "int" = some true by decide +kernel, show kitB "int" "bool" = some false by decide +kernel, show kitB "int" "str" = some false by decide +kernel⟩
  | bl b => exact ⟨_, .base (.bl _), show kitB "bool" "int" = some true by decide +kernel, show kitB "bool" "bool" = some true by decide +kernel, show kitB "bool" "str" = some false by decide +kernel⟩
  | non => exact ⟨_, .base .non, show kitB "NoneType" "int" = some false by decide +kernel, show kitB "NoneType" "bool" = some false by decide +kernel, show kitB "NoneType" "str" = some false by decide +kernel⟩
  | str s => exact ⟨_, .base (.str _), show kitB "str" "int" = some false by decide +kernel, show kitB "str" "bool" = some false by decide +kernel, show kitB "str" "str" = some true by decide +kernel⟩
  | lst e => exact ⟨_, .base (.lst e), show kitB "list" "int" = some false by decide +kernel, show kitB "list" "bool" = some false by decide +kernel, show kitB "list" "str" = some false by decide +kernel⟩
  | tup e => exact ⟨_, .base (.tup e), show kitB "tuple" "int" = some false by decide +kernel, show kitB "tuple" "bool" = some false by decide +kernel, show kitB "tuple" "str" = some false by decide +kernel⟩
end
def spB (f : V → Bool) : Sp := fun vs H Q _ => ∃ v : V, vs = [v] ∧ Thg H v ∧ ∀ H', Same H H' → Q (.bl (f v)) H'
theorem sgn_le {c : Nat} : ((!decide (([c] : List Nat) < [97])) && (!decide (([122] : List Nat) < [c]))) = okC c := by
  have h1 : (([c] : List Nat) < [97]) ↔ c < 97 := by rw [List.cons_lt_cons_iff]; simp
  have h2 : (([122] : List Nat) < [c]) ↔ 122 < c := by rw [List.cons_lt_cons_iff]; simp
  unfold okC
  simp only [h1, h2]
  by_cases a : c < 97 <;> by_cases b : 122 < c <;> simp [a, b] <;> omega
theorem sgn_in : ∀ {c : Nat}, decide (c ∈ ("abcdefghijklmnopqrstuvwxyz" : Str).cps.toList) = okC c := by
  intro c
  by_cases h : c < 128
  · exact (show ∀ c : Nat, c < 128 → decide (c ∈ ("abcdefghijklmnopqrstuvwxyz" : Str).cps.toList) = okC c by decide +kernel) c h
  · have e1 : okC c = false := by
      unfold okC
      exact decide_eq_false (by omega)
    rw [e1]
    refine decide_eq_false fun hm => ?_
    have := (show ∀ c ∈ ("abcdefghijklmnopqrstuvwxyz" : Str).cps.toList, c < 128 by decide +kernel) c hm
    omega
section
variable {P : Program} {w : World} {K : PySem.W.Frag} {mg : Str → Option Value} {base : Heap} {a : Nat → Addr} {d : Nat → FuncData}
theorem ok_plain (T : Txt K mg a d) : FnOk P w K mg base CX0 1 (a 11) (d 11) ["thing"] (spB plainV) := by
  refine T.F11.ok sc_is_plain_int (fun vs H Q E h => ?_) (fun cdv A outer s H vs Q E hr h => ?_)
  · obtain ⟨v, rfl, _⟩ := h
    rfl
  · obtain ⟨v, rfl, hv, q⟩ := h
    refine ⟨_, (pss_one (ps_ret (pe_and (pe_callB (id := "isinstance")  call_isi (by rfl) T.z_isinstance (by decide +kernel) (pa_cons (pv 0) (pa_cons (pe_bltn (v := .ty "int") (by rfl) T.z_int (by decide +kernel) rfl) pa_nil))) (pe_one (pe_not (pe_callB (id := "isinstance")  call_isi (by rfl) T.z_isinstance (by decide +kernel) (pa_cons (pv 0) (pa_cons (pe_bltn (v := .ty "bool") (by rfl) T.z_bool (by decide +kernel) rfl) pa_nil)))))))), ?_⟩
    obtain ⟨n, ht, k1, k2, k3⟩ := hv.ty (K := K)
    refine ⟨_, rfl, _, _, _, _, _, rfl, .ty _, ht, kit_ty k1, _, rfl, ?_⟩
    have q : Q (.bl (tyInt v && !tyBool v)) H := q H (Same.refl H)
    refine ite2 (fun e => ?_) (fun e => ?_)
    · rw [e] at q
      exact ⟨_, rfl, _, _, _, _, _, rfl, .ty _, ht, kit_ty k2, _, rfl, q⟩
    · rw [Bool.eq_false_iff.mpr e] at q
      exact q
theorem ok_is_word (T : Txt K mg a d) : FnOk P w K mg base CX0 1 (a 12) (d 12) ["thing"] (spB wordV) := by
  refine T.F12.ok sc_is_word (fun vs H Q E h => ?_) (fun cdv A outer s H vs Q E hr h => ?_)
  · obtain ⟨v, rfl, _⟩ := h
    rfl
  · obtain ⟨v, rfl, hv, q⟩ := h
    obtain ⟨t8, h_LONGEST_WORD⟩ := T.c_LONGEST_WORD
    refine ⟨_, (pss_cons (ps_if (PW.pt (pw_or (pt_not (pt_val (pe_callB (id := "isinstance")  call_isi (by rfl) T.z_isinstance (by decide +kernel) (pa_cons (pv 0) (pa_cons (pe_bltn (v := .ty "str") (by rfl) T.z_str (by decide +kernel) rfl) pa_nil))))) (pw_or1 (pt_not (pt_chain op_le op_le pe_int (pe_callB (id := "len")  call_len_str (by rfl) T.z_len (by decide +kernel) (pa_cons (pv 0) pa_nil)) (pe_glob (v := .int (8)) rfl h_LONGEST_WORD ⟨_, rfl⟩))))))
    (pss_one (ps_ret pe_bl))
    pss_nil)
  (pss_one (ps_ret (pe_callB (id := "all")  (cr_all rfl) (by rfl) T.z_all (by decide +kernel) (pa_cons (pe_lc (own := [("letter", 1)]) rfl sc_is_word.nd (pi_str (pv 0)) (blkOk_by (N := ["thing", "letter"]) (sc := defScope s_is_word) (by decide +kernel)) (fun _ _ _ _ _ => pg_name (i := 1) sc_is_word.nd rfl (.inl rfl)) (fun _ _ _ _ _ => pts_nil) (fun _ _ _ _ _ => (pe_chain op_le_str op_le_str pe_str (pv 1) pe_str))) pa_nil))))), ?_⟩
    obtain ⟨n, ht, k1, k2, k3⟩ := hv.ty (K := K)
    refine ⟨_, rfl, _, _, _, _, _, rfl, .ty _, ht, kit_ty k3, _, rfl, ?_⟩
    cases hv with
    | int i => exact q H (Same.refl H)
    | bl i => exact q H (Same.refl H)
    | non => exact q H (Same.refl H)
    | lst e => exact q H (Same.refl H)
    | tup e => exact q H (Same.refl H)
    | str s hl hc =>
      have q : ∀ H', Same H H' → Q (.bl (decide (1 ≤ s.length ∧ s.length ≤ 8) && s.cps.toList.all okC)) H' := q
      refine ⟨_, rfl, _, rfl, small1000' hl, _, _, rfl, rfl, _, rfl, ?_⟩
      refine ite_d (fun h1 => ?_) (fun h1 => ?_)
      · refine ⟨_, _, rfl, rfl, _, rfl, ?_⟩
        refine ite_nd (fun h2 => ?_) (fun h2 => ?_)
        · have e : decide (1 ≤ s.length ∧ s.length ≤ 8) = false := decide_eq_false (by omega)
          rw [e] at q
          exact q H (Same.refl H)
        · have e : decide (1 ≤ s.length ∧ s.length ≤ 8) = true := decide_eq_true (by omega)
          rw [e] at q
          refine ⟨_, rfl, _, rfl, fun D hD => ?_⟩
          refine lc_str (fun i H' => H' D = some (.lst (((s.cps.toList.take i).map okC).map V.bl)) ∧ Same H H') ⟨upd_same, same_upd hD⟩ (fun i c H' hx hp => ?_) (fun H' hp => ?_)
          · have hx' : s.cps.toList[i]? = some c := by rw [Array.getElem?_toList]; exact hx
            have hsz : (((s.cps.toList.take i).map okC).map V.bl).length < sizeLine := by
              rw [List.length_map, List.length_map, List.length_take]
              have : s.cps.toList.length = s.length := Array.length_toList
              exact small1000 (by omega)
            have step : ∀ b, b = okC c → ∀ H3, H3 = H' → (upd H3 D (.lst (((s.cps.toList.take i).map okC).map V.bl ++ [.bl b]))) D = some (.lst (((s.cps.toList.take (i + 1)).map okC).map V.bl)) ∧ Same H (upd H3 D (.lst (((s.cps.toList.take i).map okC).map V.bl ++ [.bl b]))) := fun b eb H3 e3 => by
              subst e3
              refine ⟨?_, fun x o ex => ?_⟩
              · rw [map_take hx', List.map_append, ← eb]
                exact upd_same
              · rw [upd_ne (ne_of_none ex hD)]
                exact hp.2 x o ex
            have e0 : ("a" : Str).cps.toList = [97] := by decide +kernel
            have e9 : ("z" : Str).cps.toList = [122] := by decide +kernel
            have eo := sgn_le (c := c)
            refine ⟨rfl, ?_⟩
            refine ⟨_, rfl, _, _, rfl, rfl, _, rfl, ?_⟩
            refine ite_nd (fun h3 => ?_) (fun h3 => ?_)
            · rw [e0] at h3
              have h3' : ¬ ([c] : List Nat) < [97] := h3
              rw [decide_eq_false h3'] at eo
              refine ⟨_, _, rfl, rfl, _, hp.1, hsz, step _ ?_ _ rfl⟩
              rw [e9]
              exact eo
            · rw [e0] at h3
              have h3' : ([c] : List Nat) < [97] := h3
              rw [decide_eq_true h3'] at eo
              exact ⟨_, hp.1, hsz, step _ eo _ rfl⟩
          · obtain ⟨h3, h4⟩ := hp
            have et : s.cps.toList.take s.cps.size = s.cps.toList := List.take_of_length_le (Nat.le_of_eq Array.length_toList)
            rw [et] at h3
            refine ⟨D, _, rfl, .of h3, ?_⟩
            have ea : ((s.cps.toList.map okC).all id) = s.cps.toList.all okC := by rw [List.all_map]; rfl
            rw [ea]
            exact q H' h4
      · have e : decide (1 ≤ s.length ∧ s.length ≤ 8) = false := decide_eq_false (by omega)
        rw [e] at q
        exact ⟨_, rfl, q H (Same.refl H)⟩
end
section
variable {P : Program} {w : World} {K : PySem.W.Frag} {mg : Str → Option Value} {base : Heap} {a : Nat → Addr} {d : Nat → FuncData}
theorem ok_is_value (T : Txt K mg a d) : FnOk P w K mg base CX0 2 (a 13) (d 13) ["thing"] (spB valV') := by
  have G11 : FnOk P w K mg base CX0 1 (a 11) (d 11) ["thing"] (spB plainV) := ok_plain T
  have G12 : FnOk P w K mg base CX0 1 (a 12) (d 12) ["thing"] (spB wordV) := ok_is_word T
  refine T.F13.ok sc_is_value (fun vs H Q E h => ?_) (fun cdv A outer s H vs Q E hr h => ?_)
  · obtain ⟨v, rfl, _⟩ := h
    rfl
  · obtain ⟨v, rfl, hv, q⟩ := h
    obtain ⟨t9, h_GREATEST_VALUE⟩ := T.c_GREATEST_VALUE
    refine ⟨_, (pss_cons (ps_if (pt_val (pe_call G11 (hr.mono (by decide)) (by rfl) T.g11 T.F11.kp T.b11 .nil pass0 (pa_cons (pv 0) pa_nil)))
    (pss_one (ps_ret (pe_chain op_le op_le (pe_un un_neg (pe_glob (v := .int (999999999999999999999999999999)) rfl h_GREATEST_VALUE ⟨_, rfl⟩)) (pv 0) (pe_glob (v := .int (999999999999999999999999999999)) rfl h_GREATEST_VALUE ⟨_, rfl⟩))))
    pss_nil)
  (pss_one (ps_ret (pe_call G12 (hr.mono (by decide)) (by rfl) T.g12 T.F12.kp T.b12 .nil pass0 (pa_cons (pv 0) pa_nil))))), ?_⟩
    refine ⟨_, rfl, v, rfl, hv, fun H1 s1 => ⟨_, rfl, ?_⟩⟩
    have word : ∀ H1, Same H H1 → valV' v = wordV v → tRet (tCall (spB wordV) [] (fun _ _ _ => False) (tCons (tVar 0) tNil)) { nx := fun _ H' => Q .non H', rt := Q } [some v] H1 := fun H1 s1 ev => ⟨_, rfl, v, rfl, hv.same s1, fun H2 s2 => by
      rw [← ev]
      exact q H2 (s1.trans s2)⟩
    cases hv with
    | int i =>
      refine ⟨_, rfl, _, rfl, _, _, rfl, rfl, _, rfl, ?_⟩
      have q1 := q H1 s1
      refine ite_d (fun h2 => ?_) (fun h2 => ?_)
      · refine ⟨_, _, rfl, rfl, ?_⟩
        have e : decide (i ≤ 999999999999999999999999999999) = decide (-999999999999999999999999999999 ≤ i ∧ i ≤ 999999999999999999999999999999) := by
          by_cases h3 : i ≤ 999999999999999999999999999999
          · rw [decide_eq_true h3, decide_eq_true ⟨h2, h3⟩]
          · rw [decide_eq_false h3, decide_eq_false (fun x => h3 x.2)]
        show Q (.bl (decide (i ≤ 999999999999999999999999999999))) H1
        rw [e]
        exact q1
      · have e : decide (-999999999999999999999999999999 ≤ i ∧ i ≤ 999999999999999999999999999999) = false := decide_eq_false (fun x => h2 x.1)
        have q1 : Q (.bl (decide (-999999999999999999999999999999 ≤ i ∧ i ≤ 999999999999999999999999999999))) H1 := q1
        rw [e] at q1
        exact q1
    | bl b => exact word H1 s1 rfl
    | non => exact word H1 s1 rfl
    | str s h hc => exact word H1 s1 rfl
    | lst e => exact word H1 s1 rfl
    | tup e => exact word H1 s1 rfl
end
theorem paired_snoc {α β : Type} {R : α → β → Prop} {x : α} {y : β} : ∀ {xs : List α} {ys : List β}, Paired R xs ys → R x y → Paired R (xs ++ [x]) (ys ++ [y])
  | _, _, .nil, h => .cons h .nil
  | _, _, .cons r t, h => .cons r (paired_snoc t h)
/-! ### rows of values: their order -/
abbrev RowK := List Key
def item : Key → Int ⊕ List Nat
  | .inl i => .inl i
  | .inr s => .inr s.cps.toList
theorem item_inj {a b : Key} (h : item a = item b) : a = b := by
  cases a <;> cases b
  · exact congrArg Sum.inl (Sum.inl.inj h)
  · cases h
  · cases h
  · rename_i x y
    have e : x.cps.toList = y.cps.toList := Sum.inr.inj h
    have e2 : x = y := by
      cases x
      cases y
      exact congrArg Str.mk (Array.toList_inj.mp e)
    rw [e2]
def toks (r : RowK) : List (Int ⊕ List Nat) := r.map item
def rowLt (a b : RowK) : Bool := PyProof.Rows.lexLt PyProof.Rows.itemOrd (toks a) (toks b)
def isStrK : Key → Bool
  | .inl _ => false
  | .inr _ => true
def keyD : Key → PyData
  | .inl i => .int i
  | .inr s => .str s
def pairD (k : Key) : PyData := .tuple [.bool (isStrK k), keyD k]
def rowD (r : RowK) : PyData := .tuple (r.map pairD)
def tokP : PyData → Int ⊕ List Nat
  | .tuple [_, .int i] => .inl i
  | .tuple [_, .str s] => .inr s.cps.toList
  | _ => .inl 0
def tokD : PyData → List (Int ⊕ List Nat)
  | .tuple ps => ps.map tokP
  | _ => []
theorem tokP_pair (k : Key) : tokP (pairD k) = item k := by cases k <;> rfl
theorem tokD_row (r : RowK) : tokD (rowD r) = toks r := by
  show (r.map pairD).map tokP = r.map item
  rw [List.map_map]
  exact List.map_congr_left fun k _ => tokP_pair k
theorem eqv_key (x y : Key) : PyData.eqv (keyD x) (keyD y) = decide (x = y) := by
  cases x <;> cases y <;> simp [keyD, PyData.eqv]
  · rename_i a b
    exact Bool.eq_iff_iff.mpr (by simp)
  · rename_i a b
    exact Bool.eq_iff_iff.mpr (by simp)
theorem eqv_pair (x y : Key) : PyData.eqv (pairD x) (pairD y) = decide (x = y) := by
  have h := eqv_key x y
  unfold pairD
  simp only [PyData.eqv, PyData.eqvAll, h, Bool.and_true]
  cases x <;> cases y <;> simp [isStrK]
theorem ok_pair {x y : Key} (h : x ≠ y) : SK.okLt (pairD x) (pairD y) = true := by
  have hk := eqv_key x y
  rw [decide_eq_false h] at hk
  cases x <;> cases y <;> simp [pairD, SK.okLt, SK.okAll, isStrK, PyData.eqv] <;> first | trivial | (rw [hk]; simp [keyD, SK.okLt])
theorem lt_pair {x y : Key} (h : x ≠ y) : SK.ltD (pairD x) (pairD y) = PyProof.Rows.itemLt (item x) (item y) := by
  have hk := eqv_key x y
  rw [decide_eq_false h] at hk
  cases x <;> cases y <;> simp [pairD, SK.ltD, SK.ltAll, isStrK, PyData.eqv]
  · rw [hk]
    simp [keyD, SK.ltD, item, PyProof.Rows.itemLt]
  · simp only [item, PyProof.Rows.itemLt]
    decide
  · simp only [item, PyProof.Rows.itemLt]
    decide
  · rw [hk]
    simp [keyD, SK.ltD, item, PyProof.Rows.itemLt, PyProof.Rows.strKind]
theorem item_total {x y : Key} (h : x ≠ y) : PyProof.Rows.itemLt (item y) (item x) = !PyProof.Rows.itemLt (item x) (item y) := by
  have a : PyProof.Rows.itemLt (item x) (item y) = false → PyProof.Rows.itemLt (item y) (item x) = false → item x = item y := PyProof.Rows.itemOrd.total _ _
  have b : PyProof.Rows.itemLt (item x) (item y) = true → PyProof.Rows.itemLt (item y) (item x) = true → False := fun h1 h2 => by
    have h3 := PyProof.Rows.itemOrd.trans _ _ _ h1 h2
    rw [PyProof.Rows.itemOrd.irrefl] at h3
    cases h3
  cases h1 : PyProof.Rows.itemLt (item x) (item y) <;> cases h2 : PyProof.Rows.itemLt (item y) (item x)
  · exact absurd (item_inj (a h1 h2)) h
  · rfl
  · rfl
  · exact (b h1 h2).elim
theorem rowLt_cons (x y : Key) (r t : RowK) : rowLt (x :: r) (y :: t) = if x = y then rowLt r t else PyProof.Rows.itemLt (item x) (item y) := by
  show (PyProof.Rows.itemLt (item x) (item y) || (!PyProof.Rows.itemLt (item y) (item x) && rowLt r t)) = _
  by_cases h : x = y
  · subst h
    rw [if_pos rfl, show PyProof.Rows.itemLt (item x) (item x) = false from PyProof.Rows.itemOrd.irrefl _]
    simp
  · rw [if_neg h, item_total h]
    cases PyProof.Rows.itemLt (item x) (item y) <;> simp
theorem ok_rows : ∀ a b : RowK, SK.okAll (a.map pairD) (b.map pairD) = true
  | [], _ => by cases ‹RowK› <;> simp [SK.okAll]
  | _ :: _, [] => by simp [SK.okAll]
  | x :: r, y :: t => by
    simp only [List.map_cons, SK.okAll, eqv_pair]
    by_cases h : x = y
    · rw [decide_eq_true h, if_pos rfl]
      exact ok_rows r t
    · rw [decide_eq_false h, if_neg (by decide)]
      exact ok_pair h
theorem lt_rows : ∀ a b : RowK, SK.ltAll (a.map pairD) (b.map pairD) = rowLt a b
  | [], [] => by simp [SK.ltAll, rowLt, toks, PyProof.Rows.lexLt]
  | [], _ :: _ => by simp [SK.ltAll, rowLt, toks, PyProof.Rows.lexLt]
  | _ :: _, [] => by simp [SK.ltAll, rowLt, toks, PyProof.Rows.lexLt]
  | x :: r, y :: t => by
    rw [rowLt_cons]
    simp only [List.map_cons, SK.ltAll, eqv_pair]
    by_cases h : x = y
    · rw [decide_eq_true h, if_pos rfl, if_pos h]
      exact lt_rows r t
    · rw [decide_eq_false h, if_neg (by decide), if_neg h]
      exact lt_pair h
theorem toks_inj : ∀ {a b : RowK}, toks a = toks b → a = b
  | [], [], _ => rfl
  | [], _ :: _, h => by cases h
  | _ :: _, [], h => by cases h
  | x :: r, y :: t, h => by
    have h1 : item x = item y := (List.cons.inj h).1
    have h2 : toks r = toks t := (List.cons.inj h).2
    rw [item_inj h1, toks_inj h2]
theorem rowLt_total {a b : RowK} (h1 : rowLt a b = false) (h2 : rowLt b a = false) : a = b := toks_inj ((PyProof.Rows.listOrd PyProof.Rows.itemOrd).total _ _ h1 h2)
theorem rowLt_trans {a b c : RowK} (h1 : rowLt a b = true) (h2 : rowLt b c = true) : rowLt a c = true := (PyProof.Rows.listOrd PyProof.Rows.itemOrd).trans _ _ _ h1 h2
theorem rowLt_irrefl (a : RowK) : rowLt a a = false := (PyProof.Rows.listOrd PyProof.Rows.itemOrd).irrefl _
theorem rowLt_neg {a b c : RowK} (h : rowLt a c = true) : rowLt a b = true ∨ rowLt b c = true := (PyProof.Rows.listOrd PyProof.Rows.itemOrd).negTrans _ _ _ h
/-- what may stand in a row: an int, a text of true code points -/
def KOk : Key → Prop
  | .inl _ => True
  | .inr s => PyData.strOk s = true
theorem lay_pair {k : Key} (h : KOk k) : (pairD k).canLay0 = true := by
  cases k with
  | inl i => simp [pairD, keyD, PyData.canLay0, PyData.canLayAll0]
  | inr s =>
    have h' : PyData.strOk s = true := h
    simp [pairD, keyD, PyData.canLay0, PyData.canLayAll0, h']
theorem lay_pairs : ∀ {r : RowK}, (∀ k ∈ r, KOk k) → PyData.canLayAll0 (r.map pairD) = true
  | [], _ => by simp [PyData.canLayAll0]
  | k :: r, h => by
    simp only [List.map_cons, PyData.canLayAll0, lay_pair (h k List.mem_cons_self), lay_pairs fun x hx => h x (List.mem_cons_of_mem _ hx), Bool.and_self]
theorem depth_pair (k : Key) : (pairD k).depth = 1 := by cases k <;> simp [pairD, keyD, PyData.depth, PyData.depthAll]
theorem depth_pairs : ∀ r : RowK, PyData.depthAll (r.map pairD) ≤ 1
  | [] => by simp [PyData.depthAll]
  | k :: r => by
    simp only [List.map_cons, PyData.depthAll, depth_pair]
    have := depth_pairs r
    omega
theorem rowD_depth (r : RowK) : (rowD r).depth ≤ 2 := by
  show PyData.depthAll (r.map pairD) + 1 ≤ 2
  have := depth_pairs r
  omega
theorem keys_rows (rs : List RowK) (h : ∀ r ∈ rs, ∀ k ∈ r, KOk k) : SK.Keys (rs.map rowD) tokD where
  lay d hd := by
    obtain ⟨r, hr, rfl⟩ := List.mem_map.mp hd
    show PyData.canLay0 (.tuple (r.map pairD)) = true
    simp only [PyData.canLay0]
    exact lay_pairs (h r hr)
  tup d hd := by
    obtain ⟨r, hr, rfl⟩ := List.mem_map.mp hd
    exact ⟨_, rfl⟩
  ok d hd d' hd' := by
    obtain ⟨r, hr, rfl⟩ := List.mem_map.mp hd
    obtain ⟨t, ht, rfl⟩ := List.mem_map.mp hd'
    show SK.okLt (.tuple (r.map pairD)) (.tuple (t.map pairD)) = true
    simp only [SK.okLt]
    exact ok_rows r t
  lt d hd d' hd' := by
    obtain ⟨r, hr, rfl⟩ := List.mem_map.mp hd
    obtain ⟨t, ht, rfl⟩ := List.mem_map.mp hd'
    rw [tokD_row, tokD_row]
    show SK.ltD (.tuple (r.map pairD)) (.tuple (t.map pairD)) = rowLt r t
    simp only [SK.ltD]
    exact lt_rows r t
  ty x r y t hx hy := by
    obtain ⟨a, ha, ea⟩ := List.mem_map.mp hx
    obtain ⟨b, hb, eb⟩ := List.mem_map.mp hy
    have first : ∀ (a : RowK) x r, rowD a = .tuple (x :: r) → ∃ ps, x = .tuple ps := fun a x r e => by
      cases a with
      | nil => cases e
      | cons k a =>
        have e' : PyData.tuple (pairD k :: a.map pairD) = .tuple (x :: r) := e
        injection e' with e'
        exact ⟨_, (List.cons.inj e').1.symm⟩
    obtain ⟨p1, rfl⟩ := first a x r ea
    obtain ⟨p2, rfl⟩ := first b y t eb
    rfl
/-! ### rows in the heap -/
/-- p is the tuple r -/
abbrev RowAt (H : Hp) (p : Addr) (r : RowK) : Prop := H p = some (.tup (r.map kV))
abbrev RowsAt (H : Hp) (L : List (Addr × RowK)) : Prop := ∀ b ∈ L, RowAt H b.1 b.2
theorem RowsAt.same {H H' : Hp} {L : List (Addr × RowK)} (h : RowsAt H L) (s : ∀ b o, H b = some o → H' b = some o) : RowsAt H' L := fun b hb => s _ _ (h b hb)
theorem snoc_ind {α : Type} {P : List α → Prop} (h0 : P []) (h1 : ∀ l a, P l → P (l ++ [a])) : ∀ l, P l := by
  intro l
  rw [← List.reverse_reverse l]
  induction l.reverse with
  | nil => exact h0
  | cons a t ih =>
    rw [List.reverse_cons]
    exact h1 _ _ ih
/-- the different rows, in the order of their first places -/
def add1 (acc : List RowK) (r : RowK) : List RowK := if (acc.any fun k => decide (k = r)) = true then acc else acc ++ [r]
def uniq (rs : List RowK) : List RowK := rs.foldl add1 []
theorem any_mem {acc : List RowK} {r : RowK} : (acc.any fun k => decide (k = r)) = true ↔ r ∈ acc := by
  rw [List.any_eq_true]
  constructor
  · rintro ⟨x, hx, e⟩
    rw [← of_decide_eq_true e]
    exact hx
  · exact fun h => ⟨r, h, decide_eq_true rfl⟩
theorem putK_uniq (ks : List RowK) (r : RowK) : (putK (ks.map fun k => (k, V.bl true)) r (.bl true)) = (add1 ks r).map fun k => (k, V.bl true) := by
  unfold putK add1
  have e : ((ks.map fun k => (k, V.bl true)).any fun kv => decide (kv.1 = r)) = (ks.any fun k => decide (k = r)) := by rw [List.any_map]; rfl
  rw [e]
  split
  · rw [List.map_map]
    exact List.map_congr_left fun k _ => by
      by_cases q : k = r
      · simp [q]
      · simp [q]
  · rw [List.map_append]
    rfl
theorem uniq_snoc (rs : List RowK) (r : RowK) : uniq (rs ++ [r]) = add1 (uniq rs) r := by
  unfold uniq
  rw [List.foldl_append]
  rfl
theorem uniq_all : ∀ rs : List RowK, (uniq rs).Nodup ∧ ∀ r, r ∈ uniq rs ↔ r ∈ rs := snoc_ind ⟨List.nodup_nil, fun r => Iff.rfl⟩ fun l a ih => by
  obtain ⟨h1, h2⟩ := ih
  rw [uniq_snoc]
  unfold add1
  by_cases h : ((uniq l).any fun k => decide (k = a)) = true
  · rw [if_pos h]
    refine ⟨h1, fun r => ?_⟩
    rw [h2, List.mem_append, List.mem_singleton]
    exact ⟨.inl, fun q => q.elim id fun e => by rw [e, ← h2]; exact any_mem.mp h⟩
  · rw [if_neg h]
    have h' : ¬ a ∈ uniq l := fun q => h (any_mem.mpr q)
    refine ⟨List.nodup_append.mpr ⟨h1, List.nodup_cons.mpr ⟨by simp, List.nodup_nil⟩, fun x hx y hy e => ?_⟩, fun r => ?_⟩
    · rw [List.mem_singleton.mp hy] at e
      exact h' (e ▸ hx)
    · rw [List.mem_append, List.mem_append, h2]
theorem uniq_len : ∀ rs : List RowK, (uniq rs).length ≤ rs.length := snoc_ind (Nat.le_refl _) fun l a ih => by
  rw [uniq_snoc, List.length_append]
  unfold add1
  split
  · exact Nat.le_succ_of_le ih
  · rw [List.length_append]
    exact Nat.add_le_add_right ih 1
/-- the rows sorted: each once, each before the next -/
structure SortedRows (L : List (Addr × RowK)) (rs : List RowK) : Prop where
  all : ∀ r, r ∈ L.map (·.2) ↔ r ∈ rs
  up : L.Pairwise fun a b => rowLt a.2 b.2 = true
  len : L.length ≤ rs.length
theorem nd_sub {α : Type} [DecidableEq α] : ∀ {xs ys : List α}, xs.Nodup → (∀ x ∈ xs, x ∈ ys) → xs.length ≤ ys.length ∧ (ys.length ≤ xs.length → ∀ y ∈ ys, y ∈ xs)
  | [], ys, _, _ => ⟨Nat.zero_le _, fun h y hy => by
    have : ys = [] := List.length_eq_zero_iff.mp (Nat.le_zero.mp h)
    rw [this] at hy
    exact hy⟩
  | x :: xs, ys, nd, sub => by
    obtain ⟨n1, n2⟩ := List.nodup_cons.mp nd
    have hx := sub x List.mem_cons_self
    have hl := List.length_erase_of_mem hx
    have hpos : 0 < ys.length := List.length_pos_of_mem hx
    have ih := nd_sub (ys := ys.erase x) n2 fun z hz => (List.mem_erase_of_ne (fun e => n1 (by rw [← e]; exact hz))).mpr (sub z (List.mem_cons_of_mem _ hz))
    refine ⟨by rw [List.length_cons]; omega, fun h y hy => ?_⟩
    rw [List.length_cons] at h
    by_cases e : y = x
    · rw [e]
      exact List.mem_cons_self
    · exact List.mem_cons_of_mem _ (ih.2 (by omega) y ((List.mem_erase_of_ne e).mpr hy))
theorem same_mut {H H1 : Hp} {D : Addr} {o : HO} (s : Same H H1) (h : H D = none) : Same H (upd H1 D o) := fun b u e => by
  rw [upd_ne (ne_of_none e h)]
  exact s b u e
theorem sv_nd {H : Hp} {ts : List (Str × Int)} {ks : List KeyE} {ss : List SvE} {n : Nat} (h : Svcs H ts ks ss n) : ((svK ss).map (·.1)).Nodup := by
  rw [keys_sv]
  exact inr_nd h.nm.nd
theorem Tabs.up {ts : List (Str × Int)} {m : Nat} {w v : Int} (h : Tabs ts m w) (hv : w ≤ v) : Tabs ts m v := ⟨h.nm, fun p hp => ⟨(h.wd p hp).1, Int.le_trans (h.wd p hp).2 hv⟩⟩
theorem wd_b {s : Str} (h : Wd s) : wordB s = true := by
  unfold wordB
  rw [decide_eq_true (show 1 ≤ s.length ∧ s.length ≤ 8 from ⟨h.1, h.2.1⟩), Bool.true_and, List.all_eq_true]
  intro c hc
  unfold okC
  exact decide_eq_true (h.2.2 c hc)
theorem wd_thg {H : Hp} {s : Str} (h : Wd s) : Thg H (.str s) := .str s (by have := h.2.1; omega) fun c hc => by have := (h.2.2 c hc).2; omega
theorem capV_none' {cap : Option Int} (h : cap.isNone = true) : capV cap = .non := by
  cases cap with
  | none => rfl
  | some c => cases h
theorem all_bls (bs : List Bool) : (bs.all id) = bs.all fun b => b := rfl
def spIsWh : Sp := fun vs H Q _ => ∃ (v t k ga : Addr) (n : Str) (cs : List Int) (cap : Option Int) (w : Int) (ts : List (Str × Int)) (ks : List KeyE) (m : Nat), vs = [.ref v, .ref t, .ref k] ∧ Told H v n ga cs cap ∧ DctAt H t (tabK ts) ∧ DctAt H k (keyK ks) ∧ Tabs ts m 4 ∧ Keys H ts ks ∧ (n, w) ∈ ts ∧ cs.length ≤ 100 ∧
  ∀ H', Same H H' → Q (.bl (isWh w ks n cs cap)) H'
section
variable {P : Program} {w : World} {K : PySem.W.Frag} {mg : Str → Option Value} {base : Heap} {a : Nat → Addr} {d : Nat → FuncData}
theorem ok_is_wh (T : Txt K mg a d) : FnOk P w K mg base CX0 1 (a 36) (d 36) ["service", "tables", "keys"] spIsWh := by
  refine T.F36.ok sc__is_whole_service (fun vs H Q E h => ?_) (fun cdv A outer s H vs Q E hr h => ?_)
  · obtain ⟨v, t, k, ga, n, cs, cap, w, ts, ks, m, rfl, _⟩ := h
    rfl
  · obtain ⟨v, t, k, ga, n, cs, cap, w, ts, ks, m, rfl, hv, ht, hk, hT, hK, hm, hl, q⟩ := h
    have fin : ∀ b : Bool, b = isWh w ks n cs cap → ∀ H', Same H H' → Q (.bl b) H' := fun b e H' s => by
      rw [e]
      exact q H' s
    have g := ht.get (tab_nd hT) (Sum.inr n)
    rw [tab_val hT hm] at g
    have gk := fun (H' : Hp) (s : Same H H') => (hk.same s).get (key_nd hT hK) (Sum.inr n)
    rw [keyAt_val] at gk
    refine ⟨_, (pss_cons (ps_asg (pv 0) (pg_tup rfl (pgs_cons (pg_name (i := 3) sc__is_whole_service.nd rfl (.inl rfl)) (pgs_cons (pg_name (i := 4) sc__is_whole_service.nd rfl (.inr rfl)) (pgs_cons (pg_name (i := 5) sc__is_whole_service.nd rfl (.inl rfl)) pgs_nil)))))
  (pss_cons (ps_if (PW.pt (pw_or (pt_cmpR op_isN (pv 5) pe_non (nomark _)) (pw_or1 (pt_cmpR op_eq (pe_callB (id := "len")  call_len_seq (by rfl) T.z_len (by decide +kernel) (pa_cons (pv 4) pa_nil)) (pe_dget (hu_of hr) (pv 1) (pv 3) (fun _ _ => rfl)) (nomark _)))))
    (pss_one (ps_ret pe_bl))
    pss_nil)
  (pss_one (ps_ret (pe_and (pe_cmp (pc_din (hu_of hr) (pv 3) (pv 2)) rfl) (pe_one (pe_callB (id := "all")  (cr_all rfl) (by rfl) T.z_all (by decide +kernel) (pa_cons (pe_lc (own := [("column", 6)]) rfl sc__is_whole_service.nd (pi_tup (pe_dget (hu_of hr) (pv 2) (pv 3) (fun _ _ => rfl))) (blkOk_by (N := ["service", "tables", "keys", "table", "given", "cap", "column"]) (sc := defScope s__is_whole_service) (by decide +kernel)) (fun _ _ _ _ _ => pg_name (i := 6) sc__is_whole_service.nd rfl (.inl rfl)) (fun _ _ _ _ _ => pts_nil) (fun _ _ _ _ _ => (pe_cmpR (r := rIn K false) op_in_seq (pv 6) (pv 4) (by rfl)))) pa_nil)))))))), ?_⟩
    refine ⟨_, rfl, v, _, rfl, .of hv.tup, rfl, _, _, rfl, _, _, rfl, _, _, rfl, rfl, ?_⟩
    refine ⟨_, rfl, rfl, _, rfl, ?_⟩
    rw [capV_none]
    cases e1 : cap.isNone with
    | true => exact fin true (by unfold isWh; rw [e1]; rfl) H (fun _ _ e => e)
    | false =>
      refine ⟨_, rfl, _, _, rfl, .inr (.of hv.cols), _, rfl, _, rfl, t, _, rfl, g, rfl, _, rfl, ?_⟩
      rw [List.length_map]
      refine ite_eqI (fun e2 => ?_) (fun e2 => ?_)
      · exact fin true (by unfold isWh; rw [e1, decide_eq_true e2]; rfl) H (fun _ _ e => e)
      · refine ⟨_, rfl, _, rfl, k, _, rfl, gk H (Same.refl H), _, rfl, ?_⟩
        cases e3 : keyAt ks n with
        | none => exact fin false (by unfold isWh; rw [e1, decide_eq_false e2, e3]; rfl) H (fun _ _ e => e)
        | some b =>
          rw [e3] at gk
          obtain ⟨bm, bn⟩ := keyAt_mem e3
          have hb := hK.at_ b bm
          obtain ⟨w', hw', hcols', hl1, hl2⟩ := hK.ok b bm
          have hw2 := (hT.wd _ hw').2
          refine ⟨_, rfl, _, rfl, k, _, rfl, gk H (Same.refl H), b.2.1, rfl, ⟨_, .of hb⟩, fun D hD => ?_⟩
          refine lc_tup (K := K) (a := b.2.1) (xs := b.2.2.map V.int) (fun i H' => H' D = some (.lst (((b.2.2.take i).map fun c => decide (c ∈ cs)).map V.bl)) ∧ Same H H') ⟨upd_same, same_upd hD⟩ (fun i H' _ hp => .of (hp.2 _ _ hb)) (fun i x H' hx hp => ?_) (fun H' hp => ?_)
          · obtain ⟨h1, h2⟩ := hp
            obtain ⟨c, hcx, rfl⟩ := map_at hx
            have hi : i < b.2.2.length := (List.getElem?_eq_some_iff.mp hcx).1
            refine ⟨rfl, ?_⟩
            refine ⟨_, rfl, _, rfl, ga, _, rfl, .inr (.of (h2 _ _ hv.cols)), rfl, flat_ints _, _, h1, ?_, ?_, ?_⟩
            · rw [List.length_map, List.length_map, List.length_take]
              exact Nat.lt_of_le_of_lt (by omega : _ ≤ 100) (by decide)
            · rw [map_take hcx, List.map_append]
              refine Eq.trans upd_same ?_
              show some (HO.lst (_ ++ [V.bl (inV (.int c) (cs.map V.int))])) = _
              rw [inV_ints]
              rfl
            · intro x o ex
              rw [upd_ne (ne_of_none ex hD)]
              exact h2 x o ex
          · obtain ⟨h1, h2⟩ := hp
            rw [List.length_map, List.take_length] at h1
            refine ⟨D, _, rfl, .of h1, ?_⟩
            refine fin _ ?_ _ h2
            unfold isWh
            rw [e1, decide_eq_false e2, e3, List.all_map]
            rfl
end
theorem perm_map_ex {α β : Type} {f : α → β} {ys zs : List β} (h : ys.Perm zs) : ∀ xs : List α, zs = xs.map f → ∃ L : List α, L.Perm xs ∧ L.map f = ys := by
  induction h with
  | nil =>
    intro xs e
    cases xs with
    | nil => exact ⟨[], .refl _, rfl⟩
    | cons x xs => cases e
  | cons y p ih =>
    intro xs e
    cases xs with
    | nil => cases e
    | cons x xs =>
      rw [List.map_cons] at e
      injection e with e1 e2
      obtain ⟨L, h1, h2⟩ := ih xs e2
      exact ⟨x :: L, h1.cons x, by rw [List.map_cons, h2, e1]⟩
  | swap y z l =>
    intro xs e
    cases xs with
    | nil => cases e
    | cons x xs =>
      cases xs with
      | nil => cases e
      | cons x' xs =>
        rw [List.map_cons, List.map_cons] at e
        injection e with e1 e2
        injection e2 with e2 e3
        exact ⟨x' :: x :: xs, .swap _ _ _, by rw [List.map_cons, List.map_cons, e1, e2, e3]⟩
  | trans p q ih1 ih2 =>
    intro xs e
    obtain ⟨L, h1, h2⟩ := ih2 xs e
    obtain ⟨M, h3, h4⟩ := ih1 L h2.symm
    exact ⟨M, h3.trans h1, h4⟩
/-- what sorted(d) is asked and gives -/
theorem DctAt.names {α : Type} {H : Hp} {t : Addr} {xs : List α} {g : α → Key × V} {f : α → Str} (h : DctAt H t (xs.map g)) (hg : ∀ x, (g x).1 = Sum.inr (f x)) (hl : xs.length < 64) :
    ∃ ks zs, H t = some (.dK ks) ∧ ks.length = xs.length ∧ ks.map (·.1) = zs.map Sum.inr ∧ zs.length < 64 ∧ zs.Perm (xs.map f) ∧ ∀ ys : List Str, ys.Perm zs → ∃ L : List α, L.Perm xs ∧ L.map f = ys := by
  obtain ⟨ks, e, p⟩ := h
  obtain ⟨L, h1, h2⟩ := perm_map_ex p xs rfl
  refine ⟨ks, L.map f, e, ?_, ?_, ?_, h1.map f, fun ys hy => ?_⟩
  · rw [← h2, List.length_map, h1.length_eq]
  · rw [← h2, List.map_map, List.map_map]
    exact List.map_congr_left fun x _ => hg x
  · rw [List.length_map, h1.length_eq]
    exact hl
  · obtain ⟨M, h3, h4⟩ := perm_map_ex hy L rfl
    exact ⟨M, h3.trans h1, h4⟩
theorem key_val {H : Hp} {ts : List (Str × Int)} {ks : List KeyE} {m : Nat} {wm : Int} (hT : Tabs ts m wm) (h : Keys H ts ks) {b : KeyE} (hb : b ∈ ks) : valV (keyK ks) (Sum.inr b.1) = some (.ref b.2.1) :=
  val_nodup (kvs := keyK ks) (key_nd hT h) (Sum.inr b.1, V.ref b.2.1) (List.mem_map.mpr ⟨b, hb, rfl⟩)
theorem sv_val {H : Hp} {ts : List (Str × Int)} {ks : List KeyE} {ss : List SvE} {n : Nat} (h : Svcs H ts ks ss n) {b : SvE} (hb : b ∈ ss) : valV (svK ss) (Sum.inr b.name) = some (.ref b.at_) :=
  val_nodup (kvs := svK ss) (sv_nd h) (Sum.inr b.name, V.ref b.at_) (List.mem_map.mpr ⟨b, hb, rfl⟩)
theorem fillE_perm {ts : List (Str × Int)} {ks : List KeyE} {a b : List SvE} (p : a.Perm b) : (fillE ts ks a).Perm (fillE ts ks b) := (p.filter _).map _
theorem fillE_take {ts : List (Str × Int)} {ks : List KeyE} (L : List SvE) (i : Nat) : (fillE ts ks (L.take i)).Sublist (fillE ts ks L) := ((List.take_sublist i L).filter _).map _
theorem rising_pw : ∀ (l : List Str) (p : Str), PyProof.Rows.risingS p l = true → (p :: l).Pairwise fun a b => a.cps.toList ≤ b.cps.toList
  | [], p, _ => List.pairwise_singleton _ _
  | x :: r, p, h => by
    have h' : (!PySem.Spec.ltCps x.cps.toList p.cps.toList && PyProof.Rows.risingS x r) = true := h
    rw [Bool.and_eq_true] at h'
    obtain ⟨h1, h2⟩ := h'
    have ih := rising_pw r x h2
    have hpx : p.cps.toList ≤ x.cps.toList := by
      rw [PyProof.Rows.ltCps_eq] at h1
      have h3 : ¬ x.cps.toList < p.cps.toList := by simpa using h1
      exact h3
    refine List.pairwise_cons.mpr ⟨fun y hy => ?_, ih⟩
    rcases List.mem_cons.mp hy with rfl | hy
    · exact hpx
    · exact List.le_trans hpx ((List.pairwise_cons.mp ih).1 y hy)
theorem sorted_pw {l : List Str} (h : PyProof.Rows.sortedS l = true) : l.Pairwise fun a b => a.cps.toList ≤ b.cps.toList := by
  cases l with
  | nil => exact .nil
  | cons x r => exact rising_pw r x h
theorem sorted_uniq {a b : List Str} (p : a.Perm b) (ha : PyProof.Rows.sortedS a = true) (hb : PyProof.Rows.sortedS b = true) : a = b := by
  refine List.Perm.eq_of_pairwise (le := fun a b : Str => a.cps.toList ≤ b.cps.toList) (fun x y _ _ h1 h2 => ?_) (sorted_pw ha) (sorted_pw hb) p
  have e := List.le_antisymm h1 h2
  cases x
  cases y
  congr
  exact Array.toList_inj.mp e
theorem dc_list {K : PySem.W.Frag} {a : Addr} {xs : List V} {g : TG} {tt : TT} {tk tv : TE} {vs : List Nat} {σ : L2.St} {H1 : Hp} {D : Addr} {Qd : Hp → Prop} (Pv : Nat → Hp → Prop) (h0 : Pv 0 (upd H1 D (.dK []))) (hl : ∀ i H, i ≤ xs.length → Pv i H → SqL K H a xs)
    (hs : ∀ i x H, xs[i]? = some x → Pv i H → g x (wipe σ vs) H fun σ2 H2 => wipe σ2 vs = wipe σ vs ∧ tt σ2 H2 fun b H3 =>
      if b = true then tk σ2 H3 fun y H4 => tv σ2 H4 fun z H5 => ∃ kvs k, y = kV k ∧ H5 D = some (.dK kvs) ∧ kvs.length < sizeLine ∧ Pv (i + 1) (upd H5 D (.dK (putK kvs k z))) else Pv (i + 1) H3) (hd : ∀ H, Pv xs.length H → Qd H) :
    ∃ W : Nat → Nat → Hp → Prop, (∃ m, W 0 m (upd H1 D (.dK []))) ∧ ∀ i m H, W i m H →
      ((Itl K a).stop i H ∧ Qd H) ∨ ((Itl K a).go i H ∧ ∃ Nx : Hp → Prop, (∀ H', Nx H' → ∃ m', m' < m ∧ W (i + 1) m' H') ∧ ∀ x H', (Itl K a).yld i H x H' → g x (wipe σ vs) H' fun σ2 H2 => wipe σ2 vs = wipe σ vs ∧ tt σ2 H2 fun b H3 =>
        if b = true then tk σ2 H3 fun y H4 => tv σ2 H4 fun z H5 => ∃ kvs k, y = kV k ∧ H5 D = some (.dK kvs) ∧ kvs.length < sizeLine ∧ Nx (upd H5 D (.dK (putK kvs k z))) else Nx H3) := by
  refine ⟨fun i m H => m = xs.length - i ∧ i ≤ xs.length ∧ Pv i H, ⟨xs.length, by simp, Nat.zero_le _, h0⟩, ?_⟩
  rintro i m H ⟨rfl, hi, p⟩
  have q := hl i H hi p
  rcases Nat.lt_or_ge i xs.length with lt | ge
  · refine .inr ⟨⟨xs, xs[i], q, by simp [lt]⟩, Pv (i + 1), fun H' p' => ⟨xs.length - (i + 1), by omega, rfl, lt, p'⟩, fun x H' y => ?_⟩
    obtain ⟨e, y⟩ := y
    subst e
    exact hs i x _ (y xs q) p
  · obtain rfl : i = xs.length := by omega
    exact .inl ⟨⟨xs, q, Nat.le_refl _⟩, hd H p⟩
def spCopied : Sp := fun vs H Q _ => ∃ (t : Addr) (kvs : List (Key × V)) (names : List Str), vs = [.ref t] ∧ DctAt H t kvs ∧ kvs.map (·.1) = names.map Sum.inr ∧ names.Nodup ∧ names.length < 64 ∧ ∀ D H', H D = none → DctAt H' D kvs → Same H H' → Q (.ref D) H'
section
variable {P : Program} {w : World} {K : PySem.W.Frag} {mg : Str → Option Value} {base : Heap} {a : Nat → Addr} {d : Nat → FuncData}
theorem ok_copied (T : Txt K mg a d) : FnOk P w K mg base CX0 1 (a 41) (d 41) ["things"] spCopied := by
  refine T.F41.ok sc__copied (fun vs H Q E h => ?_) (fun cdv A outer s H vs Q E hr h => ?_)
  · obtain ⟨t, kvs, names, rfl, _⟩ := h
    rfl
  · obtain ⟨t, kvs, names, rfl, ht, hk, hnd, h64, q⟩ := h
    have nd : (kvs.map (·.1)).Nodup := by
      rw [hk]
      exact inr_nd hnd
    obtain ⟨kd, e, pk⟩ := id ht
    have pk' := pk.map (·.1)
    rw [hk] at pk'
    obtain ⟨zs, z1, z2⟩ := perm_map_ex pk' names rfl
    refine ⟨_, (pss_one (ps_ret (pe_dc (own := [("name", 1)]) rfl sc__copied.nd (pi_list (pe_callB (id := "sorted")  (call_sortedD rfl) (by rfl) T.z_sorted (by decide +kernel) (pa_cons (pv 0) pa_nil))) (blkOk_by (N := ["things", "name"]) (sc := defScope s__copied) (by decide +kernel)) (fun _ _ _ _ _ => pg_name (i := 1) sc__copied.nd rfl (.inl rfl)) (fun _ _ _ _ _ => pts_nil) (fun _ _ _ _ _ => (pv 1)) (fun _ _ _ _ _ => (pe_dget (hu_of hr) (pv 0) (pv 1) (fun _ _ => rfl)))))), ?_⟩
    refine ⟨_, rfl, t, kd, zs, rfl, .inl e, z2.symm, by rw [z1.length_eq]; exact h64, fun ys p yp _ hp => ⟨p, rfl, ?_⟩⟩
    have s0 := same_upd (o := .lst (ys.map V.str)) hp
    have yn : ys.Perm names := yp.trans z1
    have ynd : ys.Nodup := yn.nodup_iff.mpr hnd
    have yl : ys.length < 64 := by rw [yn.length_eq]; exact h64
    refine ⟨⟨_, .of upd_same⟩, fun D hD => ?_⟩
    have hD0 : H D = none := s0.free hD
    have npD : p ≠ D := ne_of_none upd_same hD
    have pairs : ∀ zs : List Str, zs.Perm names → (zs.map fun n => ((Sum.inr n : Key), (valV kvs (Sum.inr n)).getD .non)).Perm kvs := fun zs hz => by
      refine (hz.map _).trans (List.Perm.of_eq ?_)
      have e1 : (names.map fun n => ((Sum.inr n : Key), (valV kvs (Sum.inr n)).getD .non)) = (kvs.map (·.1)).map fun k => (k, (valV kvs k).getD .non) := by
        rw [hk, List.map_map]
        rfl
      rw [e1, List.map_map]
      refine Eq.trans (List.map_congr_left (g := id) fun x hx => ?_) (List.map_id _)
      show (x.1, (valV kvs x.1).getD .non) = x
      rw [val_nodup nd x hx]
      rfl
    refine dc_list (K := K) (a := p) (xs := ys.map V.str) (fun i H' => H' D = some (.dK ((ys.take i).map fun n => ((Sum.inr n : Key), (valV kvs (Sum.inr n)).getD .non))) ∧ Same (upd H p (.lst (ys.map V.str))) H') ⟨upd_same, same_upd hD⟩ (fun i H' _ hp => .of (hp.2 _ _ upd_same)) (fun i x H' hx hp => ?_) (fun H' hp => ?_)
    · obtain ⟨h1, h2⟩ := hp
      obtain ⟨n, hn, rfl⟩ := map_at hx
      have hmem : n ∈ names := yn.mem_iff.mp (List.mem_of_getElem? hn)
      have hv : ∃ v, valV kvs (Sum.inr n) = some v := by
        have : (Sum.inr n : Key) ∈ kvs.map (·.1) := by
          rw [hk]
          exact List.mem_map.mpr ⟨n, hmem, rfl⟩
        obtain ⟨x, hx, e⟩ := List.mem_map.mp this
        exact ⟨x.2, by rw [← e]; exact val_nodup nd x hx⟩
      obtain ⟨v, hv⟩ := hv
      refine ⟨rfl, _, rfl, _, rfl, _, rfl, t, v, rfl, (ht.same (s0.trans h2)).at_ nd hv, _, Sum.inr n, rfl, h1, ?_, ?_, ?_⟩
      · rw [List.length_map, List.length_take]
        exact small1000 (by omega)
      · rw [map_take hn, hv]
        refine Eq.trans upd_same (congrArg (fun x => some (HO.dK x)) ?_)
        rw [putK_new _ (valV_no ?_)]
        · rfl
        · rw [List.map_map]
          exact inr_no (nd_take ynd hn)
      · intro x o ex
        rw [upd_ne (ne_of_none ex hD)]
        exact h2 x o ex
    · obtain ⟨h1, h2⟩ := hp
      rw [List.length_map, List.take_length] at h1
      exact q D H' hD0 ⟨_, h1, pairs ys yn⟩ (s0.trans h2)
end
def fldsS (d1 d2 d3 : Addr) : List (Str × V) := putF "_services" (.ref d3) (putF "_keys" (.ref d2) (putF "_tables" (.ref d1) []))
theorem flds_t (d1 d2 d3 : Addr) : (fldsS d1 d2 d3).lookup ("_tables" : Str) = some (V.ref d1) := by
  unfold fldsS
  rw [lookup_putF, if_neg (by decide +kernel), lookup_putF, if_neg (by decide +kernel), lookup_putF, if_pos rfl]
theorem flds_k (d1 d2 d3 : Addr) : (fldsS d1 d2 d3).lookup ("_keys" : Str) = some (V.ref d2) := by
  unfold fldsS
  rw [lookup_putF, if_neg (by decide +kernel), lookup_putF, if_pos rfl]
theorem flds_s (d1 d2 d3 : Addr) : (fldsS d1 d2 d3).lookup ("_services" : Str) = some (V.ref d3) := by
  unfold fldsS
  rw [lookup_putF, if_pos rfl]
theorem flds_no (d1 d2 d3 : Addr) {m : Str} (h1 : ¬ m = "_services") (h2 : ¬ m = "_keys") (h3 : ¬ m = "_tables") : (fldsS d1 d2 d3).lookup m = none := by
  unfold fldsS
  rw [lookup_putF, if_neg h1, lookup_putF, if_neg h2, lookup_putF, if_neg h3]
  rfl
theorem DctAt.but {H H' : Hp} {t p : Addr} {kvs : List (Key × V)} {C dx : Addr} {fs : List (Str × V)} (h : DctAt H t kvs) (hp : H p = some (.ins C dx fs)) (s : ∀ b o, b ≠ p → H b = some o → H' b = some o) : DctAt H' t kvs := by
  obtain ⟨ks, e, q⟩ := h
  exact ⟨ks, s _ _ (ne_of e hp (by intro z; cases z)) e, q⟩
/-! ### dicts with the same pairs in any order -/
section
variable {P : Program} {w : World} {K : PySem.W.Frag} {mg : Str → Option Value} {base : Heap} {a : Nat → Addr} {d : Nat → FuncData}
/-! ### the small ones -/
def spCount : Sp := fun vs H Q _ => ∃ (i m : Int), vs = [.int i, .int m] ∧ ∀ H', Same H H' → Q (.bl (decide (1 ≤ i ∧ i ≤ m))) H'
theorem ok_count (T : Txt K mg a d) : FnOk P w K mg base CX0 2 (a 31) (d 31) ["thing", "most"] spCount := by
  have G11 : FnOk P w K mg base CX0 1 (a 11) (d 11) ["thing"] (spB plainV) := ok_plain T
  refine T.F31.ok sc__is_count (fun vs H Q E h => ?_) (fun cdv A outer s H vs Q E hr h => ?_)
  · obtain ⟨i, m, rfl, _⟩ := h
    rfl
  · obtain ⟨i, m, rfl, q⟩ := h
    refine ⟨_, (pss_one (ps_ret (pe_and (pe_call G11 (hr.mono (by decide)) (by rfl) T.g11 T.F11.kp T.b11 .nil pass0 (pa_cons (pv 0) pa_nil)) (pe_one (pe_chain op_le op_le pe_int (pv 0) (pv 1)))))), ?_⟩
    refine ⟨_, rfl, _, rfl, .int i, fun H1 s1 => ⟨_, rfl, ?_⟩⟩
    refine ⟨_, rfl, _, _, rfl, rfl, _, rfl, ite_d (fun h1 => ?_) (fun h1 => ?_)⟩
    · refine ⟨_, rfl, _, _, rfl, rfl, ?_⟩
      have := q H1 s1
      show Q (.bl (decide (i ≤ m))) H1
      by_cases h2 : i ≤ m
      · rw [decide_eq_true (show 1 ≤ i ∧ i ≤ m from ⟨h1, h2⟩)] at this
        rw [decide_eq_true h2]
        exact this
      · rw [decide_eq_false (fun z : 1 ≤ i ∧ i ≤ m => h2 z.2)] at this
        rw [decide_eq_false h2]
        exact this
    · have := q H1 s1
      rw [decide_eq_false (fun z : 1 ≤ i ∧ i ≤ m => h1 z.1)] at this
      exact this
def spNameIn : Sp := fun vs H Q _ => ∃ (n : Str) (t : Addr) (kvs : List (Key × V)), vs = [.str n, .ref t] ∧ DctAt H t kvs ∧ (kvs.map (·.1)).Nodup ∧ Q (.bl (valV kvs (Sum.inr n)).isSome) H
theorem ok_name_in (T : Txt K mg a d) : FnOk P w K mg base CX0 1 (a 32) (d 32) ["thing", "names"] spNameIn := by
  refine T.F32.ok sc__is_name_in (fun vs H Q E h => ?_) (fun cdv A outer s H vs Q E hr h => ?_)
  · obtain ⟨n, t, kvs, rfl, _⟩ := h
    rfl
  · obtain ⟨n, t, kvs, rfl, ht, nd, q⟩ := h
    refine ⟨_, (pss_one (ps_ret (pe_and (pe_callB (id := "isinstance")  call_isi (by rfl) T.z_isinstance (by decide +kernel) (pa_cons (pv 0) (pa_cons (pe_bltn (v := .ty "str") (by rfl) T.z_str (by decide +kernel) rfl) pa_nil))) (pe_one (pe_cmp (pc_din (hu_of hr) (pv 0) (pv 1)) rfl))))), ?_⟩
    refine ⟨_, rfl, _, _, _, _, _, rfl, .ty _, .base (.str n), kit_ty (show kitB "str" "str" = some true by decide +kernel), _, rfl, ?_⟩
    exact ⟨_, rfl, _, rfl, t, _, rfl, ht.get nd (Sum.inr n), q⟩
def spAreCols : Sp := fun vs H Q _ => ∃ (c : Addr) (cs : List Int) (w : Int), vs = [.ref c, .int w] ∧ H c = some (.tup (cs.map V.int)) ∧ Cols cs w ∧ cs.length ≤ 100 ∧ ∀ H', Same H H' → Q (.bl true) H'
theorem ok_are_columns (T : Txt K mg a d) : FnOk P w K mg base CX0 2 (a 33) (d 33) ["thing", "width"] spAreCols := by
  have G11 : FnOk P w K mg base CX0 1 (a 11) (d 11) ["thing"] (spB plainV) := ok_plain T
  refine T.F33.ok sc__are_columns (fun vs H Q E h => ?_) (fun cdv A outer s H vs Q E hr h => ?_)
  · obtain ⟨c, cs, w, rfl, _⟩ := h
    rfl
  · obtain ⟨c, cs, w, rfl, hc, hcs, hl, q⟩ := h
    refine ⟨_, (pss_cons (ps_if (pt_not (pt_val (pe_callB (id := "isinstance")  call_isi (by rfl) T.z_isinstance (by decide +kernel) (pa_cons (pv 0) (pa_cons (pe_bltn (v := .ty "tuple") (by rfl) T.z_tuple (by decide +kernel) rfl) pa_nil)))))
    (pss_one (ps_ret pe_bl))
    pss_nil)
  (pss_cons (ps_set (i := 2) sc__are_columns.nd rfl (.inl rfl) pe_int)
  (pss_cons (ps_for PassesOwn.never rfl (pi_tup (pv 0)) (pg_name (i := 3) sc__are_columns.nd rfl (.inl rfl))
    (pss_cons (ps_if (PW.pt (pw_or (pt_not (pt_val (pe_call G11 (hr.mono (by decide)) (by rfl) T.g11 T.F11.kp T.b11 .nil pass0 (pa_cons (pv 3) pa_nil)))) (pw_or1 (pt_not (pt_chain op_le op_lt (pv 2) (pv 3) (pv 1))))))
        (pss_one (ps_ret pe_bl))
        pss_nil)
      (pss_one (ps_set (i := 2) sc__are_columns.nd rfl (.inl rfl) (pe_op op_add (pv 3) pe_int)))))
  (pss_one (ps_ret pe_bl))))), ?_⟩
    refine ⟨_, rfl, _, _, _, _, _, rfl, .ty _, .base (.tup hc), kit_ty (show kitB "tuple" "tuple" = some true by decide +kernel), _, rfl, ?_⟩
    refine ⟨_, rfl, c, rfl, ⟨_, .of hc⟩, for_tup (K := K) (a := c) (xs := cs.map V.int) (fun i σ H' => ∃ (l : Int) (y3 : Option V), σ = [some (.ref c), some (.int w), some (.int l), y3] ∧ Same H H' ∧ (∀ j x, i ≤ j → cs[j]? = some x → l ≤ x)) ⟨0, none, rfl, Same.refl H, fun j x _ e => (hcs.2 x (List.mem_of_getElem? e)).1⟩ (fun i σ H' _ hp => ?_) (fun i y σ H' hy hp => ?_) (fun σ H' hp => ?_)⟩
    · obtain ⟨l, y3, rfl, s1, _⟩ := hp
      exact .of (s1 _ _ hc)
    · obtain ⟨l, y3, rfl, s1, hlow⟩ := hp
      obtain ⟨x, hx, rfl⟩ := map_at hy
      have hb := hcs.2 x (List.mem_of_getElem? hx)
      have h1 := hlow i x (Nat.le_refl _) hx
      refine ⟨_, rfl, _, rfl, .int x, fun H1 s2 => ⟨_, rfl, ?_⟩⟩
      refine ⟨_, rfl, _, rfl, _, _, rfl, rfl, _, rfl, ite_d (fun _ => ?_) (fun z => absurd h1 z)⟩
      refine ⟨_, rfl, _, _, rfl, rfl, _, rfl, ?_⟩
      rw [decide_eq_true hb.2]
      refine ⟨_, rfl, _, _, rfl, rfl, _, _, rfl, s1.trans s2, fun j z hj e => ?_⟩
      have hij : i < j := hj
      obtain ⟨hi', ei⟩ := List.getElem?_eq_some_iff.mp hx
      obtain ⟨hj', ej⟩ := List.getElem?_eq_some_iff.mp e
      have := List.pairwise_iff_getElem.mp hcs.1 i j hi' hj' hij
      rw [ei, ej] at this
      omega
    · obtain ⟨l, y3, rfl, s1, _⟩ := hp
      exact q H' s1
/-! ### keys and services that are right -/
def spIsKey : Sp := fun vs H Q _ => ∃ (c : Addr) (cs : List Int) (w : Int), vs = [.ref c, .int w] ∧ H c = some (.tup (cs.map V.int)) ∧ Cols cs w ∧ cs.length ≤ 100 ∧ 1 ≤ cs.length ∧ (cs.length : Int) < w ∧ ∀ H', Same H H' → Q (.bl true) H'
theorem ok_is_key (T : Txt K mg a d) : FnOk P w K mg base CX0 3 (a 34) (d 34) ["thing", "width"] spIsKey := by
  have G33 : FnOk P w K mg base CX0 2 (a 33) (d 33) ["thing", "width"] spAreCols := ok_are_columns T
  refine T.F34.ok sc__is_key (fun vs H Q E h => ?_) (fun cdv A outer s H vs Q E hr h => ?_)
  · obtain ⟨c, cs, w, rfl, _⟩ := h
    rfl
  · obtain ⟨c, cs, w, rfl, hc, hcs, hl, h1, h2, q⟩ := h
    refine ⟨_, (pss_one (ps_ret (pe_and (pe_call G33 (hr.mono (by decide)) (by rfl) T.g33 T.F33.kp T.b33 .nil pass0 (pa_cons (pv 0) (pa_cons (pv 1) pa_nil))) (pe_one (pe_chain op_lt op_lt pe_int (pe_callB (id := "len")  call_len_seq (by rfl) T.z_len (by decide +kernel) (pa_cons (pv 0) pa_nil)) (pv 1)))))), ?_⟩
    refine ⟨_, rfl, _, rfl, c, cs, w, rfl, hc, hcs, hl, fun H1 s1 => ⟨_, rfl, ?_⟩⟩
    have lc : ((cs.map V.int).length : Int) = cs.length := by rw [List.length_map]
    refine ⟨_, rfl, _, _, rfl, .inr (.of (s1 _ _ hc)), _, _, rfl, rfl, _, rfl, ite_d (fun _ => ?_) (fun z => absurd (by omega) z)⟩
    refine ⟨_, rfl, _, _, rfl, rfl, ?_⟩
    show Q (.bl (decide (((cs.map V.int).length : Int) < w))) H1
    rw [lc, decide_eq_true h2]
    exact q H1 s1
def spIsSvc : Sp := fun vs H Q _ => ∃ (v t ga : Addr) (n : Str) (cs : List Int) (cap : Option Int) (w : Int) (ts : List (Str × Int)) (m : Nat), vs = [.ref v, .ref t] ∧ Told H v n ga cs cap ∧ DctAt H t (tabK ts) ∧ Tabs ts m 4 ∧ (n, w) ∈ ts ∧ Cols cs w ∧ cs.length ≤ 4 ∧ (∀ z, cap = some z → 1 ≤ z ∧ z ≤ 4) ∧ ∀ H', Same H H' → Q (.bl true) H'
theorem ok_is_service (T : Txt K mg a d) : FnOk P w K mg base CX0 3 (a 35) (d 35) ["thing", "tables"] spIsSvc := by
  have G33 : FnOk P w K mg base CX0 2 (a 33) (d 33) ["thing", "width"] spAreCols := ok_are_columns T
  have G32 : FnOk P w K mg base CX0 1 (a 32) (d 32) ["thing", "names"] spNameIn := ok_name_in T
  have G31 : FnOk P w K mg base CX0 2 (a 31) (d 31) ["thing", "most"] spCount := ok_count T
  refine T.F35.ok sc__is_service (fun vs H Q E h => ?_) (fun cdv A outer s H vs Q E hr h => ?_)
  · obtain ⟨v, t, ga, n, cs, cap, w, ts, m, rfl, _⟩ := h
    rfl
  · obtain ⟨v, t, ga, n, cs, cap, w, ts, m, rfl, hv, ht, hT, hm, hcs, hl, hcap, q⟩ := h
    obtain ⟨t9, h_MOST_CAP⟩ := T.c_MOST_CAP
    have tv := tab_val hT hm
    have g := fun (H' : Hp) (s : Same H H') => (ht.same s).get (tab_nd hT) (Sum.inr n)
    rw [tv] at g
    refine ⟨_, (pss_cons (ps_if (PW.pt (pw_or (pt_not (pt_val (pe_callB (id := "isinstance")  call_isi (by rfl) T.z_isinstance (by decide +kernel) (pa_cons (pv 0) (pa_cons (pe_bltn (v := .ty "tuple") (by rfl) T.z_tuple (by decide +kernel) rfl) pa_nil))))) (pw_or1 (pt_cmpR op_ne (pe_callB (id := "len")  call_len_seq (by rfl) T.z_len (by decide +kernel) (pa_cons (pv 0) pa_nil)) pe_int (nomark _)))))
    (pss_one (ps_ret pe_bl))
    pss_nil)
  (pss_cons (ps_asg (pv 0) (pg_tup rfl (pgs_cons (pg_name (i := 2) sc__is_service.nd rfl (.inl rfl)) (pgs_cons (pg_name (i := 3) sc__is_service.nd rfl (.inl rfl)) (pgs_cons (pg_name (i := 4) sc__is_service.nd rfl (.inl rfl)) pgs_nil)))))
  (pss_cons (ps_if (PW.pt (pw_or (pt_not (pt_val (pe_call G32 (hr.mono (by decide)) (by rfl) T.g32 T.F32.kp T.b32 .nil pass0 (pa_cons (pv 2) (pa_cons (pv 1) pa_nil))))) (pw_or1 (pt_not (pt_val (pe_call G33 (hr.mono (by decide)) (by rfl) T.g33 T.F33.kp T.b33 .nil pass0 (pa_cons (pv 3) (pa_cons (pe_dget (hu_of hr) (pv 1) (pv 2) (fun _ _ => rfl)) pa_nil))))))))
    (pss_one (ps_ret pe_bl))
    pss_nil)
  (pss_one (ps_ret (pe_or (pe_cmpR op_isN (pv 4) pe_non (nomark _)) (pe_one (pe_call G31 (hr.mono (by decide)) (by rfl) T.g31 T.F31.kp T.b31 .nil pass0 (pa_cons (pv 4) (pa_cons (pe_glob (v := .int (4)) rfl h_MOST_CAP ⟨_, rfl⟩) pa_nil)))))))))), ?_⟩
    refine ⟨_, rfl, _, _, _, _, _, rfl, .ty _, .base (.tup hv.tup), kit_ty (show kitB "tuple" "tuple" = some true by decide +kernel), _, rfl, ?_⟩
    refine ⟨_, rfl, _, _, rfl, .inr (.of hv.tup), rfl, _, rfl, ?_⟩
    refine ⟨_, rfl, v, _, rfl, .of hv.tup, rfl, _, _, rfl, _, _, rfl, _, _, rfl, rfl, ?_⟩
    refine ⟨_, rfl, _, rfl, n, t, tabK ts, rfl, ht, tab_nd hT, ?_⟩
    rw [tv]
    refine ⟨_, rfl, _, rfl, _, rfl, _, rfl, t, _, rfl, g H (Same.refl H), ga, cs, w, rfl, hv.cols, hcs, by omega, fun H1 s1 => ⟨_, rfl, ?_⟩⟩
    refine ⟨_, rfl, rfl, _, rfl, ?_⟩
    rw [capV_none]
    cases e : cap.isNone with
    | true => exact q H1 s1
    | false =>
      cases cap with
      | none => cases e
      | some z =>
        have hz := hcap z rfl
        refine ⟨_, rfl, z, 4, rfl, fun H2 s2 => ?_⟩
        rw [decide_eq_true hz]
        exact q H2 (s1.trans s2)
end
/-! ### a dict whose names are sorted -/
section
variable {P : Program} {w : World} {K : PySem.W.Frag} {mg : Str → Option Value} {base : Heap} {a : Nat → Addr} {d : Nat → FuncData}
def spChkT : Sp := fun vs H Q _ => ∃ (t : Addr) (ts : List (Str × Int)) (m : Nat), vs = [.ref t] ∧ DctAt H t (tabK ts) ∧ Tabs ts m 4 ∧ 1 ≤ m ∧ m ≤ 5 ∧ ∀ H', Same H H' → Q .non H'
theorem ok_check_tables (T : Txt K mg a d) : FnOk P w K mg base CX0 3 (a 37) (d 37) ["tables"] spChkT := by
  have G12 : FnOk P w K mg base CX0 1 (a 12) (d 12) ["thing"] (spB wordV) := ok_is_word T
  have G31 : FnOk P w K mg base CX0 2 (a 31) (d 31) ["thing", "most"] spCount := ok_count T
  refine T.F37.ok sc__check_tables (fun vs H Q E h => ?_) (fun cdv A outer s H vs Q E hr h => ?_)
  · obtain ⟨t, ts, m, rfl, _⟩ := h
    rfl
  · obtain ⟨t, ts, m, rfl, ht, hT, hm1, hm2, q⟩ := h
    obtain ⟨t8, h_MOST_TABLES⟩ := T.c_MOST_TABLES
    obtain ⟨t9, h_MOST_WIDTH_schemas⟩ := T.c_MOST_WIDTH_schemas
    have hlen := hT.len
    obtain ⟨ks, zs, e, kl, ek, z64, _, hL⟩ := DctAt.names (f := (·.1)) ht (fun _ => rfl) (by omega)
    refine ⟨_, (pss_cons (ps_if (pt_not (pt_chain op_le op_le pe_int (pe_callB (id := "len")  call_lenD (by rfl) T.z_len (by decide +kernel) (pa_cons (pv 0) pa_nil)) (pe_glob (v := .int (5)) rfl h_MOST_TABLES ⟨_, rfl⟩)))
    (pss_one ps_never)
    pss_nil)
  (pss_one (ps_for PassesOwn.never rfl (pi_list (pe_callB (id := "sorted")  (call_sortedD rfl) (by rfl) T.z_sorted (by decide +kernel) (pa_cons (pv 0) pa_nil))) (pg_name (i := 1) sc__check_tables.nd rfl (.inl rfl))
    (pss_one (ps_if (PW.pt (pw_or (pt_not (pt_val (pe_call G12 (hr.mono (by decide)) (by rfl) T.g12 T.F12.kp T.b12 .nil pass0 (pa_cons (pv 1) pa_nil)))) (pw_or1 (pt_not (pt_val (pe_call G31 (hr.mono (by decide)) (by rfl) T.g31 T.F31.kp T.b31 .nil pass0 (pa_cons (pe_dget (hu_of hr) (pv 0) (pv 1) (fun _ _ => rfl)) (pa_cons (pe_glob (v := .int (4)) rfl h_MOST_WIDTH_schemas ⟨_, rfl⟩) pa_nil))))))))
        (pss_one ps_never)
        pss_nil))))), ?_⟩
    refine ⟨_, rfl, t, ks, rfl, e, _, _, rfl, rfl, _, rfl, ite_d (fun _ => ?_) (fun z => absurd (by omega) z)⟩
    refine ⟨_, _, rfl, rfl, _, rfl, ?_⟩
    show if (!decide ((ks.length : Int) ≤ 5)) = true then _ else _
    rw [decide_eq_true (by omega)]
    refine ⟨_, rfl, t, ks, zs, rfl, .inl e, ek, z64, fun ys p yp _ hp => ⟨p, rfl, ?_⟩⟩
    obtain ⟨L, hLp, rfl⟩ := hL ys yp
    have s0 := same_upd (o := .lst ((L.map (·.1)).map V.str)) hp
    refine ⟨⟨_, .of upd_same⟩, for_list (K := K) (a := p) (xs := (L.map (·.1)).map V.str) (fun i σ H' => ∃ y1 : Option V, σ = [some (.ref t), y1] ∧ Same (upd H p (.lst ((L.map (·.1)).map V.str))) H') ⟨none, rfl, Same.refl _⟩ (fun i σ H' _ hp => ?_) (fun i y σ H' hy hp => ?_) (fun σ H' hp => ?_)⟩
    · obtain ⟨y1, rfl, s1⟩ := hp
      exact .of (s1 _ _ upd_same)
    · obtain ⟨y1, rfl, s1⟩ := hp
      obtain ⟨n, hn, rfl⟩ := map_at hy
      obtain ⟨b, hb, rfl⟩ := map_at hn
      have hm : (b.1, b.2) ∈ ts := hLp.mem_iff.mp (List.mem_of_getElem? hb)
      have hw := hT.wd _ hm
      have hwd := hT.nm.wd b.1 (List.mem_map.mpr ⟨_, hm, rfl⟩)
      refine ⟨_, rfl, .str b.1, rfl, wd_thg hwd, fun H1 s2 => ⟨_, rfl, ?_⟩⟩
      show if (!wordB b.1) = true then _ else _
      rw [wd_b hwd]
      refine ⟨_, rfl, _, rfl, t, _, rfl, (ht.same ((s0.trans s1).trans s2)).at_ (tab_nd hT) (tab_val hT hm), b.2, 4, rfl, fun H2 s3 => ⟨_, rfl, ?_⟩⟩
      rw [decide_eq_true hw]
      exact ⟨_, rfl, (s1.trans s2).trans s3⟩
    · obtain ⟨y1, rfl, s1⟩ := hp
      exact q H' (s0.trans s1)
def spChkK : Sp := fun vs H Q _ => ∃ (k t : Addr) (ts : List (Str × Int)) (ks : List KeyE) (m : Nat), vs = [.ref k, .ref t] ∧ DctAt H k (keyK ks) ∧ DctAt H t (tabK ts) ∧ Tabs ts m 4 ∧ Keys H ts ks ∧ m ≤ 5 ∧ ∀ H', Same H H' → Q .non H'
theorem ok_check_keys (T : Txt K mg a d) : FnOk P w K mg base CX0 4 (a 38) (d 38) ["keys", "tables"] spChkK := by
  have G34 : FnOk P w K mg base CX0 3 (a 34) (d 34) ["thing", "width"] spIsKey := ok_is_key T
  refine T.F38.ok sc__check_keys (fun vs H Q E h => ?_) (fun cdv A outer s H vs Q E hr h => ?_)
  · obtain ⟨k, t, ts, ks, m, rfl, _⟩ := h
    rfl
  · obtain ⟨k, t, ts, ks, m, rfl, hk, ht, hT, hK, hm2, q⟩ := h
    have hlen := hT.len
    have hkl : ks.length ≤ 5 := by
      have := hK.le
      omega
    obtain ⟨kd, zs, e, kl, ek, z64, _, hL⟩ := DctAt.names (f := (·.1)) hk (fun _ => rfl) (by omega)
    refine ⟨_, (pss_one (ps_for PassesOwn.never rfl (pi_list (pe_callB (id := "sorted")  (call_sortedD rfl) (by rfl) T.z_sorted (by decide +kernel) (pa_cons (pv 0) pa_nil))) (pg_name (i := 2) sc__check_keys.nd rfl (.inl rfl))
    (pss_one (ps_if (PW.pt (pw_or (pt_cmp (pc_dnotin (hu_of hr) (pv 2) (pv 1))) (pw_or1 (pt_not (pt_val (pe_call G34 (hr.mono (by decide)) (by rfl) T.g34 T.F34.kp T.b34 .nil pass0 (pa_cons (pe_dget (hu_of hr) (pv 0) (pv 2) (fun _ _ => rfl)) (pa_cons (pe_dget (hu_of hr) (pv 1) (pv 2) (fun _ _ => rfl)) pa_nil))))))))
        (pss_one ps_never)
        pss_nil)))), ?_⟩
    refine ⟨_, rfl, k, kd, zs, rfl, .inl e, ek, z64, fun ys p yp _ hp => ⟨p, rfl, ?_⟩⟩
    obtain ⟨L, hLp, rfl⟩ := hL ys yp
    have s0 := same_upd (o := .lst ((L.map (·.1)).map V.str)) hp
    refine ⟨⟨_, .of upd_same⟩, for_list (K := K) (a := p) (xs := (L.map (·.1)).map V.str) (fun i σ H' => ∃ y1 : Option V, σ = [some (.ref k), some (.ref t), y1] ∧ Same (upd H p (.lst ((L.map (·.1)).map V.str))) H') ⟨none, rfl, Same.refl _⟩ (fun i σ H' _ hp => ?_) (fun i y σ H' hy hp => ?_) (fun σ H' hp => ?_)⟩
    · obtain ⟨y1, rfl, s1⟩ := hp
      exact .of (s1 _ _ upd_same)
    · obtain ⟨y1, rfl, s1⟩ := hp
      obtain ⟨n, hn, rfl⟩ := map_at hy
      obtain ⟨b, hb, rfl⟩ := map_at hn
      have hm : b ∈ ks := hLp.mem_iff.mp (List.mem_of_getElem? hb)
      obtain ⟨w', hw', hcols, hl1, hl2⟩ := hK.ok b hm
      have hwd := hT.wd _ hw'
      have s2 := s0.trans s1
      have gt := (ht.same s2).at_ (tab_nd hT) (tab_val hT hw')
      refine ⟨_, rfl, _, rfl, t, _, rfl, gt, _, rfl, ?_⟩
      refine ⟨_, rfl, _, rfl, k, _, rfl, (hk.same s2).at_ (key_nd hT hK) (key_val hT hK hm), _, rfl, _, rfl, t, _, rfl, gt, b.2.1, b.2.2, w', rfl, s2 _ _ (hK.at_ b hm), hcols, by omega, hl1, hl2, fun H1 s3 => ⟨_, rfl, ?_⟩⟩
      exact ⟨_, rfl, s1.trans s3⟩
    · obtain ⟨y1, rfl, s1⟩ := hp
      exact q H' (s0.trans s1)
def spChkS : Sp := fun vs H Q _ => ∃ (v t : Addr) (ts : List (Str × Int)) (ks : List KeyE) (ss : List SvE) (m n : Nat), vs = [.ref v, .ref t] ∧ DctAt H v (svK ss) ∧ DctAt H t (tabK ts) ∧ Tabs ts m 4 ∧ Svcs H ts ks ss n ∧ 1 ≤ n ∧ n ≤ 8 ∧ ∀ H', Same H H' → Q .non H'
theorem ok_check_services (T : Txt K mg a d) : FnOk P w K mg base CX0 4 (a 39) (d 39) ["services", "tables"] spChkS := by
  have G12 : FnOk P w K mg base CX0 1 (a 12) (d 12) ["thing"] (spB wordV) := ok_is_word T
  have G35 : FnOk P w K mg base CX0 3 (a 35) (d 35) ["thing", "tables"] spIsSvc := ok_is_service T
  refine T.F39.ok sc__check_services (fun vs H Q E h => ?_) (fun cdv A outer s H vs Q E hr h => ?_)
  · obtain ⟨v, t, ts, ks, ss, m, n, rfl, _⟩ := h
    rfl
  · obtain ⟨v, t, ts, ks, ss, m, n, rfl, hv, ht, hT, hS, hm1, hm2, q⟩ := h
    obtain ⟨t8, h_MOST_SERVICES⟩ := T.c_MOST_SERVICES
    have hlen : ss.length = n := by rw [← hS.nm.len, List.length_map]
    obtain ⟨kd, zs, e, kl, ek, z64, _, hL⟩ := DctAt.names (f := (·.name)) hv (fun _ => rfl) (by omega)
    refine ⟨_, (pss_cons (ps_if (pt_not (pt_chain op_le op_le pe_int (pe_callB (id := "len")  call_lenD (by rfl) T.z_len (by decide +kernel) (pa_cons (pv 0) pa_nil)) (pe_glob (v := .int (8)) rfl h_MOST_SERVICES ⟨_, rfl⟩)))
    (pss_one ps_never)
    pss_nil)
  (pss_one (ps_for PassesOwn.never rfl (pi_list (pe_callB (id := "sorted")  (call_sortedD rfl) (by rfl) T.z_sorted (by decide +kernel) (pa_cons (pv 0) pa_nil))) (pg_name (i := 2) sc__check_services.nd rfl (.inl rfl))
    (pss_one (ps_if (PW.pt (pw_or (pt_not (pt_val (pe_call G12 (hr.mono (by decide)) (by rfl) T.g12 T.F12.kp T.b12 .nil pass0 (pa_cons (pv 2) pa_nil)))) (pw_or1 (pt_not (pt_val (pe_call G35 (hr.mono (by decide)) (by rfl) T.g35 T.F35.kp T.b35 .nil pass0 (pa_cons (pe_dget (hu_of hr) (pv 0) (pv 2) (fun _ _ => rfl)) (pa_cons (pv 1) pa_nil))))))))
        (pss_one ps_never)
        pss_nil))))), ?_⟩
    refine ⟨_, rfl, v, kd, rfl, e, _, _, rfl, rfl, _, rfl, ite_d (fun _ => ?_) (fun z => absurd (by omega) z)⟩
    refine ⟨_, _, rfl, rfl, _, rfl, ?_⟩
    show if (!decide ((kd.length : Int) ≤ 8)) = true then _ else _
    rw [decide_eq_true (by omega)]
    refine ⟨_, rfl, v, kd, zs, rfl, .inl e, ek, z64, fun ys p yp _ hp => ⟨p, rfl, ?_⟩⟩
    obtain ⟨L, hLp, rfl⟩ := hL ys yp
    have s0 := same_upd (o := .lst ((L.map (·.name)).map V.str)) hp
    refine ⟨⟨_, .of upd_same⟩, for_list (K := K) (a := p) (xs := (L.map (·.name)).map V.str) (fun i σ H' => ∃ y1 : Option V, σ = [some (.ref v), some (.ref t), y1] ∧ Same (upd H p (.lst ((L.map (·.name)).map V.str))) H') ⟨none, rfl, Same.refl _⟩ (fun i σ H' _ hp => ?_) (fun i y σ H' hy hp => ?_) (fun σ H' hp => ?_)⟩
    · obtain ⟨y1, rfl, s1⟩ := hp
      exact .of (s1 _ _ upd_same)
    · obtain ⟨y1, rfl, s1⟩ := hp
      obtain ⟨nm, hn, rfl⟩ := map_at hy
      obtain ⟨b, hb, rfl⟩ := map_at hn
      have hm : b ∈ ss := hLp.mem_iff.mp (List.mem_of_getElem? hb)
      have hwd := hS.nm.wd b.name (List.mem_map.mpr ⟨_, hm, rfl⟩)
      obtain ⟨htold, ⟨w', hw', hcols, hcl⟩, hcap⟩ := hS.ok b hm
      refine ⟨_, rfl, .str b.name, rfl, wd_thg hwd, fun H1 s2 => ⟨_, rfl, ?_⟩⟩
      have s3 := (s0.trans s1).trans s2
      show if (!wordB b.name) = true then _ else _
      rw [wd_b hwd]
      refine ⟨_, rfl, _, rfl, v, _, rfl, (hv.same s3).at_ (sv_nd hS) (sv_val hS hm), _, rfl, b.at_, t, b.ga, b.tab, b.cols, b.cap, w', ts, m, rfl, htold.mono fun _ _ e => s3 _ _ e, ht.same s3, hT, hw', hcols, hcl, hcap, fun H2 s4 => ⟨_, rfl, ?_⟩⟩
      exact ⟨_, rfl, (s1.trans s2).trans s4⟩
    · obtain ⟨y1, rfl, s1⟩ := hp
      exact q H' (s0.trans s1)
end
/-! ### the order of names -/
section
variable {P : Program} {w : World} {K : PySem.W.Frag} {mg : Str → Option Value} {base : Heap} {a : Nat → Addr} {d : Nat → FuncData}
def spChkC : Sp := fun vs H Q _ => ∃ (v t k : Addr) (ts : List (Str × Int)) (ks : List KeyE) (ss : List SvE) (m n : Nat), vs = [.ref v, .ref t, .ref k] ∧ DctAt H v (svK ss) ∧ DctAt H t (tabK ts) ∧ DctAt H k (keyK ks) ∧ Tabs ts m 4 ∧ Keys H ts ks ∧ Svcs H ts ks ss n ∧ n ≤ 8 ∧ ∀ H', Same H H' → Q .non H'
theorem ok_check_capped (T : Txt K mg a d) : FnOk P w K mg base CX0 2 (a 40) (d 40) ["services", "tables", "keys"] spChkC := by
  have G36 : FnOk P w K mg base CX0 1 (a 36) (d 36) ["service", "tables", "keys"] spIsWh := ok_is_wh T
  refine T.F40.ok sc__check_capped (fun vs H Q E h => ?_) (fun cdv A outer s H vs Q E hr h => ?_)
  · obtain ⟨v, t, k, ts, ks, ss, m, n, rfl, _⟩ := h
    rfl
  · obtain ⟨v, t, k, ts, ks, ss, m, n, rfl, hv, ht, hk, hT, hK, hS, hn, q⟩ := h
    have hlen : ss.length = n := by rw [← hS.nm.len, List.length_map]
    obtain ⟨kd, zs, e, kl, ek, z64, _, hL⟩ := DctAt.names (f := (·.name)) hv (fun _ => rfl) (by omega)
    refine ⟨_, (pss_cons (ps_set (i := 3) sc__check_capped.nd rfl (.inl rfl) (pe_lst pa_nil))
  (pss_one (ps_for PassesOwn.never rfl (pi_list (pe_callB (id := "sorted")  (call_sortedD rfl) (by rfl) T.z_sorted (by decide +kernel) (pa_cons (pv 0) pa_nil))) (pg_name (i := 4) sc__check_capped.nd rfl (.inl rfl))
    (pss_cons (ps_set (i := 5) sc__check_capped.nd rfl (.inl rfl) (pe_dget (hu_of hr) (pv 0) (pv 4) (fun _ _ => rfl)))
      (pss_one (ps_if (pt_not (pt_val (pe_call G36 (hr.mono (by decide)) (by rfl) T.g36 T.F36.kp T.b36 .nil pass0 (pa_cons (pv 5) (pa_cons (pv 1) (pa_cons (pv 2) pa_nil))))))
        (pss_cons (ps_if (pt_cmpR op_in_seq (pe_ix ix_tup (pv 5) pe_int (fun _ _ => rfl)) (pv 3) (by rfl))
            (pss_one ps_never)
            pss_nil)
          (pss_one (ps_expr (pe_bm PySem.F.plainAttrs_list PySem.F.slot_list_append PySem.F.type_list_append mt_append (pv 3) (pa_cons (pe_ix ix_tup (pv 5) pe_int (fun _ _ => rfl)) pa_nil)))))
        pss_nil)))))), ?_⟩
    refine ⟨Nat.zero_le _, fun f hf => ?_⟩
    have s0 := same_upd (o := .lst []) hf
    refine ⟨_, rfl, v, kd, zs, rfl, .inl (s0 _ _ e), ek, z64, fun ys p yp _ hp => ⟨p, rfl, ?_⟩⟩
    obtain ⟨L, hLp, rfl⟩ := hL ys yp
    have s1 := same_upd (o := .lst ((L.map (·.name)).map V.str)) hp
    have nfp : f ≠ p := ne_of_none upd_same hp
    have nd : (fillE ts ks L).Nodup := (fillE_perm hLp).nodup_iff.mpr hS.one
    have lL : L.length ≤ 8 := by rw [hLp.length_eq]; omega
    refine ⟨⟨_, .of upd_same⟩, for_list (K := K) (a := p) (xs := (L.map (·.name)).map V.str) (fun i σ H' => ∃ y4 y5 : Option V, σ = [some (.ref v), some (.ref t), some (.ref k), some (.ref f), y4, y5] ∧ H' p = some (.lst ((L.map (·.name)).map V.str)) ∧ H' f = some (.lst ((fillE ts ks (L.take i)).map V.str)) ∧ Same H H')
      ⟨none, none, rfl, upd_same, s1 _ _ upd_same, s0.trans s1⟩ (fun i σ H' _ hp => ?_) (fun i y σ H' hy hp => ?_) (fun σ H' hp => ?_)⟩
    · obtain ⟨y4, y5, rfl, hp', _⟩ := hp
      exact .of hp'
    · obtain ⟨y4, y5, rfl, hp', hf', sm⟩ := hp
      obtain ⟨nm, hn', rfl⟩ := map_at hy
      obtain ⟨b, hb, rfl⟩ := map_at hn'
      have hm : b ∈ ss := hLp.mem_iff.mp (List.mem_of_getElem? hb)
      obtain ⟨htold, ⟨w', hw', hcols, hcl⟩, hcap⟩ := hS.ok b hm
      have hw2 := widthAt_mem hT.nm.nd hw'
      have tk : L.take (i + 1) = L.take i ++ [b] := by
        rw [List.take_add_one, hb]
        rfl
      have fs := fillE_snoc ts ks (L.take i) b
      rw [← tk] at fs
      have we : whE ts ks b = isWh w' ks b.tab b.cols b.cap := by
        unfold whE
        rw [hw2]
      refine ⟨_, rfl, _, rfl, v, _, rfl, (hv.same sm).at_ (sv_nd hS) (sv_val hS hm), ?_⟩
      refine ⟨_, rfl, _, rfl, _, rfl, b.at_, t, k, b.ga, b.tab, b.cols, b.cap, w', ts, ks, m, rfl, htold.mono fun _ _ e => sm _ _ e, ht.same sm, hk.same sm, hT, hK.mono fun _ _ e => sm _ _ e, hw', by omega, fun H2 s2 => ⟨_, rfl, ?_⟩⟩
      have sm2 := sm.trans s2
      cases ew : isWh w' ks b.tab b.cols b.cap with
      | true =>
        rw [we, ew, if_pos rfl, List.append_nil] at fs
        refine ⟨_, _, rfl, s2 _ _ hp', ?_, sm2⟩
        rw [fs]
        exact s2 _ _ hf'
      | false =>
        rw [we, ew, if_neg (by decide)] at fs
        have hno : b.tab ∉ fillE ts ks (L.take i) := fun hx => by
          have nd2 : (fillE ts ks (L.take (i + 1))).Nodup := nd.sublist (fillE_take L (i + 1))
          rw [fs] at nd2
          exact (List.nodup_append.mp nd2).2.2 b.tab hx b.tab (by simp) rfl
        have hat := htold.tup
        refine ⟨_, rfl, _, _, _, _, rfl, rfl, .of (sm2 _ _ hat), atI_nat (j := 0) rfl, _, rfl, f, _, rfl, .inl (.of (s2 _ _ hf')), rfl, flat_strs _, _, rfl, ?_⟩
        show if inV (.str b.tab) ((fillE ts ks (L.take i)).map V.str) = true then _ else _
        rw [inV_strs, decide_eq_false hno]
        refine ⟨_, rfl, .inl ⟨rfl, _, .of (s2 _ _ hf')⟩, _, rfl, _, _, _, _, rfl, rfl, .of (sm2 _ _ hat), atI_nat (j := 0) rfl, f, _, _, rfl, rfl, s2 _ _ hf', ?_, _, _, rfl, ?_, ?_, ?_⟩
        · rw [List.length_map]
          unfold fillE
          rw [List.length_map]
          have l1 := List.length_filter_le (fun b => !whE ts ks b) (L.take i)
          rw [List.length_take] at l1
          exact Nat.lt_of_le_of_lt (by omega : _ ≤ 8) (by decide)
        · rw [upd_ne nfp.symm]
          exact s2 _ _ hp'
        · rw [fs, List.map_append]
          exact upd_same
        · intro x o ex
          rw [upd_ne (ne_of_none ex hf)]
          exact sm2 x o ex
    · obtain ⟨y4, y5, rfl, hp', hf', sm⟩ := hp
      exact q H' sm
end
/-! ### the class -/
/-- a Schema at p -/
structure SchO (C p dx d1 d2 d3 : Addr) (H : Hp) (ts : List (Str × Int)) (ks : List KeyE) (ss : List SvE) (m n : Nat) : Prop where
  ob : H p = some (.ins C dx (fldsS d1 d2 d3))
  tb : DctAt H d1 (tabK ts)
  ky : DctAt H d2 (keyK ks)
  sv : DctAt H d3 (svK ss)
  hT : Tabs ts m 4
  hK : Keys H ts ks
  hS : Svcs H ts ks ss n
  m5 : m ≤ 5
  n8 : n ≤ 8
def SchAt (C p : Addr) (H : Hp) (ts : List (Str × Int)) (ks : List KeyE) (ss : List SvE) (m n : Nat) : Prop := ∃ dx d1 d2 d3, SchO C p dx d1 d2 d3 H ts ks ss m n
theorem SchO.same {C p dx d1 d2 d3 : Addr} {H H' : Hp} {ts : List (Str × Int)} {ks : List KeyE} {ss : List SvE} {m n : Nat} (h : SchO C p dx d1 d2 d3 H ts ks ss m n) (s : Same H H') : SchO C p dx d1 d2 d3 H' ts ks ss m n :=
  ⟨s _ _ h.ob, h.tb.same s, h.ky.same s, h.sv.same s, h.hT, h.hK.mono fun _ _ e => s _ _ e, h.hS.mono fun _ _ e => s _ _ e, h.m5, h.n8⟩
theorem SchAt.same {C p : Addr} {H H' : Hp} {ts : List (Str × Int)} {ks : List KeyE} {ss : List SvE} {m n : Nat} (h : SchAt C p H ts ks ss m n) (s : Same H H') : SchAt C p H' ts ks ss m n := by
  obtain ⟨dx, d1, d2, d3, o⟩ := h
  exact ⟨dx, d1, d2, d3, o.same s⟩
section
variable {P : Program} {w : World} {K : PySem.W.Frag} {mg : Str → Option Value} {base : Heap} {a : Nat → Addr} {d : Nat → FuncData}
def spSInit (C : Addr) : Sp := fun vs H Q _ => ∃ (p dx t k v : Addr) (ts : List (Str × Int)) (ks : List KeyE) (ss : List SvE) (m n : Nat), vs = [.ref p, .ref t, .ref k, .ref v] ∧ H p = some (.ins C dx []) ∧ DctAt H t (tabK ts) ∧ DctAt H k (keyK ks) ∧ DctAt H v (svK ss) ∧ Tabs ts m 4 ∧ Keys H ts ks ∧ Svcs H ts ks ss n ∧ 1 ≤ m ∧ m ≤ 5 ∧ 1 ≤ n ∧ n ≤ 8 ∧
  ∀ H' d1 d2 d3, SchO C p dx d1 d2 d3 H' ts ks ss m n → H d1 = none → H d2 = none → H d3 = none → (∀ b o, b ≠ p → H b = some o → H' b = some o) → Q .non H'
theorem ok_sinit (T : Txt K mg a d) : FnOk P w K mg base CX0 5 (a 5200) (d 5200) ["self", "tables", "keys", "services"] (spSInit (a 42)) := by
  have G37 : FnOk P w K mg base CX0 3 (a 37) (d 37) ["tables"] spChkT := ok_check_tables T
  have G38 : FnOk P w K mg base CX0 4 (a 38) (d 38) ["keys", "tables"] spChkK := ok_check_keys T
  have G39 : FnOk P w K mg base CX0 4 (a 39) (d 39) ["services", "tables"] spChkS := ok_check_services T
  have G40 : FnOk P w K mg base CX0 2 (a 40) (d 40) ["services", "tables", "keys"] spChkC := ok_check_capped T
  have G41 : FnOk P w K mg base CX0 1 (a 41) (d 41) ["things"] spCopied := ok_copied T
  refine T.F5200.ok sc_Schema___init__ (fun vs H Q E h => ?_) (fun cdv A outer s H vs Q E hr h => ?_)
  · obtain ⟨p, dx, t, k, v, ts, ks, ss, m, n, rfl, _⟩ := h
    rfl
  · obtain ⟨p, dx, t, k, v, ts, ks, ss, m, n, rfl, hp, ht, hk, hv, hT, hK, hS, hm1, hm2, hn1, hn2, q⟩ := h
    have lt : ts.length = m := hT.len
    have lk : ks.length ≤ 5 := by
      have := hK.le
      omega
    have ls : ss.length = n := by rw [← hS.nm.len, List.length_map]
    refine ⟨_, (pss_cons (ps_expr (pe_call G37 (hr.mono (by decide)) (by rfl) T.g37 T.F37.kp T.b37 .nil pass0 (pa_cons (pv 1) pa_nil)))
  (pss_cons (ps_expr (pe_call G38 (hr.mono (by decide)) (by rfl) T.g38 T.F38.kp T.b38 .nil pass0 (pa_cons (pv 2) (pa_cons (pv 1) pa_nil))))
  (pss_cons (ps_expr (pe_call G39 (hr.mono (by decide)) (by rfl) T.g39 T.F39.kp T.b39 .nil pass0 (pa_cons (pv 3) (pa_cons (pv 1) pa_nil))))
  (pss_cons (ps_expr (pe_call G40 (hr.mono (by decide)) (by rfl) T.g40 T.F40.kp T.b40 .nil pass0 (pa_cons (pv 3) (pa_cons (pv 1) (pa_cons (pv 2) pa_nil)))))
  (pss_cons (ps_fld (pv 0) (pe_call G41 (hr.mono (by decide)) (by rfl) T.g41 T.F41.kp T.b41 .nil pass0 (pa_cons (pv 1) pa_nil)) rfl)
  (pss_cons (ps_fld (pv 0) (pe_call G41 (hr.mono (by decide)) (by rfl) T.g41 T.F41.kp T.b41 .nil pass0 (pa_cons (pv 2) pa_nil)) rfl)
  (pss_one (ps_fld (pv 0) (pe_call G41 (hr.mono (by decide)) (by rfl) T.g41 T.F41.kp T.b41 .nil pass0 (pa_cons (pv 3) pa_nil)) rfl)))))))), ?_⟩
    refine ⟨_, rfl, t, ts, m, rfl, ht, hT, hm1, hm2, fun H1 s1 => ?_⟩
    refine ⟨_, rfl, _, rfl, k, t, ts, ks, m, rfl, hk.same s1, ht.same s1, hT, hK.mono fun _ _ e => s1 _ _ e, hm2, fun H2 s2 => ?_⟩
    have s12 := s1.trans s2
    refine ⟨_, rfl, _, rfl, v, t, ts, ks, ss, m, n, rfl, hv.same s12, ht.same s12, hT, hS.mono fun _ _ e => s12 _ _ e, hn1, hn2, fun H3 s3 => ?_⟩
    have s13 := s12.trans s3
    refine ⟨_, rfl, _, rfl, _, rfl, v, t, k, ts, ks, ss, m, n, rfl, hv.same s13, ht.same s13, hk.same s13, hT, hK.mono fun _ _ e => s13 _ _ e, hS.mono fun _ _ e => s13 _ _ e, hn2, fun H4 s4 => ?_⟩
    have s14 := s13.trans s4
    -- the three copies
    refine ⟨_, rfl, t, tabK ts, ts.map (·.1), rfl, ht.same s14, keys_tab ts, hT.nm.nd, by rw [List.length_map]; omega, fun d1 H5 f1 D1 s5 => ?_⟩
    have hp5 := (s14.trans s5) _ _ hp
    refine ⟨_, rfl, p, _, dx, _, rfl, hp5, T.cl_42, T.no_42__tables, by show 0 < 1000; decide, ?_⟩
    generalize hH6 : upd H5 p _ = H6
    have hp6 : H6 p = some (.ins (a 42) dx (putF "_tables" (.ref d1) [])) := by rw [← hH6]; exact upd_same
    have o6 : ∀ b o, b ≠ p → H5 b = some o → H6 b = some o := fun b o n e => by rw [← hH6, upd_ne n]; exact e
    have o06 : ∀ b o, b ≠ p → H b = some o → H6 b = some o := fun b o n e => o6 b o n ((s14.trans s5) _ _ e)
    have kn : ((keyK ks).map (·.1)) = (ks.map (·.1)).map Sum.inr := keys_key ks
    refine ⟨_, rfl, k, keyK ks, ks.map (·.1), rfl, hk.but hp o06, kn, hK.nd, by rw [List.length_map]; omega, fun d2 H7 f2 D2 s7 => ?_⟩
    have hp7 := s7 _ _ hp6
    refine ⟨_, rfl, p, _, dx, _, rfl, hp7, T.cl_42, T.no_42__keys, by show 1 < 1000; decide, ?_⟩
    generalize hH8 : upd H7 p _ = H8
    have hp8 : H8 p = some (.ins (a 42) dx (putF "_keys" (.ref d2) (putF "_tables" (.ref d1) []))) := by rw [← hH8]; exact upd_same
    have o8 : ∀ b o, b ≠ p → H7 b = some o → H8 b = some o := fun b o n e => by rw [← hH8, upd_ne n]; exact e
    have o68 : ∀ b o, b ≠ p → H6 b = some o → H8 b = some o := fun b o n e => o8 b o n (s7 _ _ e)
    have o08 : ∀ b o, b ≠ p → H b = some o → H8 b = some o := fun b o n e => o68 b o n (o06 b o n e)
    refine ⟨_, rfl, v, svK ss, ss.map (·.name), rfl, hv.but hp o08, keys_sv ss, hS.nm.nd, by rw [List.length_map]; omega, fun d3 H9 f3 D3 s9 => ?_⟩
    have hp9 := s9 _ _ hp8
    have l2 : ∀ d1 d2 : Addr, (putF "_keys" (.ref d2) (putF "_tables" (.ref d1) ([] : List (Str × V)))).length < 1000 := fun d1 d2 => by
      have e : putF "_keys" (.ref d2) (putF "_tables" (.ref d1) ([] : List (Str × V))) = [(("_tables" : Str), V.ref d1), (("_keys" : Str), V.ref d2)] := by
        show (if ("_tables" : Str) = "_keys" then _ else (("_tables" : Str), V.ref d1) :: putF "_keys" (.ref d2) []) = _
        rw [if_neg (by decide +kernel)]
        rfl
      rw [e]
      show 2 < 1000
      decide
    refine ⟨_, rfl, p, _, dx, _, rfl, hp9, T.cl_42, T.no_42__services, l2 _ _, ?_⟩
    generalize hH : upd H9 p _ = Hz
    have hpz : Hz p = some (.ins (a 42) dx (fldsS d1 d2 d3)) := by rw [← hH]; exact upd_same
    have oz : ∀ b o, b ≠ p → H9 b = some o → Hz b = some o := fun b o n e => by rw [← hH, upd_ne n]; exact e
    have o0z : ∀ b o, b ≠ p → H b = some o → Hz b = some o := fun b o n e => oz b o n (s9 _ _ (o08 b o n e))
    have tz : ∀ b xs, H b = some (.tup xs) → Hz b = some (.tup xs) := fun b xs e => o0z b _ (ne_of e hp (by intro z; cases z)) e
    have free : ∀ {x : Addr} {G : Hp} {o : HO}, G p = some o → (∀ b o, b ≠ p → H b = some o → G b = some o) → G x = none → H x = none := fun {x G o} hG k e => by
      cases e' : H x with
      | none => rfl
      | some u =>
        by_cases n : x = p
        · rw [n, hG] at e
          cases e
        · rw [k x u n e'] at e
          cases e
    refine q Hz d1 d2 d3 ⟨hpz, (((D1.but hp5 o6).same s7).but hp7 o8 |>.same s9).but hp9 oz, ((D2.but hp7 o8).same s9).but hp9 oz, D3.but hp9 oz, hT, hK.mono tz, hS.mono tz, hm2, hn2⟩ (s14.free f1) (free hp6 o06 f2) (free hp8 o08 f3) o0z
/-! ### its properties and lists of names -/
def spProp (C : Addr) (f : List (Str × Int) → List KeyE → List SvE → List (Key × V)) : Sp := fun vs H Q _ => ∃ (p : Addr) (ts : List (Str × Int)) (ks : List KeyE) (ss : List SvE) (m n : Nat), vs = [.ref p] ∧ SchAt C p H ts ks ss m n ∧ ∀ D H', H D = none → DctAt H' D (f ts ks ss) → Same H H' → Q (.ref D) H'
theorem ok_p_tables (T : Txt K mg a d) : FnOk P w K mg base CX0 1 (a 5201) (d 5201) ["self"] (spProp (a 42) fun ts _ _ => tabK ts) := by
  refine T.F5201.ok sc_Schema_tables (fun vs H Q E h => ?_) (fun cdv A outer s H vs Q E hr h => ?_)
  · obtain ⟨p, ts, ks, ss, m, n, rfl, _⟩ := h
    rfl
  · obtain ⟨p, ts, ks, ss, m, n, rfl, ⟨dx, d1, d2, d3, o⟩, q⟩ := h
    obtain ⟨kd, e, pk⟩ := o.tb
    exact ⟨_, (pss_one (ps_ret (pe_callTy (T := "dict")  call_dictD (by rfl) T.z_dict (by decide +kernel) (pa_cons (pe_fld (pv 0) rfl) pa_nil)))), _, rfl, p, _, dx, _, _, rfl, o.ob, T.cl_42, T.no_42__tables, flds_t _ _ _, d1, kd, rfl, .inl e, fun D hD => q D _ hD ⟨kd, upd_same, pk⟩ (same_upd hD)⟩
def spNms (C : Addr) (f : List (Str × Int) → List SvE → List Str) : Sp := fun vs H Q _ => ∃ (p : Addr) (ts : List (Str × Int)) (ks : List KeyE) (ss : List SvE) (m n : Nat), vs = [.ref p] ∧ SchAt C p H ts ks ss m n ∧ ∀ l ys H', H l = none → H' l = some (.lst (ys.map V.str)) → ys.Perm (f ts ss) → PyProof.Rows.sortedS ys = true → Same H H' → Q (.ref l) H'
end
section
variable {P : Program} {w : World} {K : PySem.W.Frag} {mg : Str → Option Value} {base : Heap} {a : Nat → Addr} {d : Nat → FuncData}
/-! ### an unknown name -/
def spUInit (C : Addr) : Sp := fun vs H Q _ => ∃ (x : Addr) (v : V), vs = [.ref x, v] ∧ H x = some (exo x C none) ∧ ∀ dx, H dx = none → dx ≠ x → Q .non (upd (upd H dx (exd dx [(("name" : Str), v)])) x (exo x C (some dx)))
/-- how an UnknownName(v) goes out: its dict dx, new -/
def Unk (C : Addr) (v : V) (H : Hp) (E : XK) : Prop := ∀ dx H', H dx = none → H' dx = some (.xd [(("name" : Str), v)]) → Same H H' → E (.ref C) (some dx) H'
theorem unk_raise {C : Addr} {v : V} {H : Hp} {E : XK} (k : Unk C v H E) : ([v] : List V).length ≤ 1000 ∧ ∀ x, H x = none → spUInit C (.ref x :: ([v] ++ [])) (upd H x (exo x C none))
    (fun u H2 => u = .non ∧ ∃ (dd : Addr) (fs : List (Str × V)), H2 x = some (exo x C (some dd)) ∧ H2 dd = some (exd dd fs) ∧ H dd = none ∧ E (.ref C) (some dd) (upd (del H2 x) dd (.xd fs))) (fun _ _ _ => False) := by
  refine ⟨by show 1 ≤ 1000; decide, fun x hx => ⟨x, v, rfl, upd_same, fun dx hdx ne => ⟨rfl, dx, _, upd_same, by rw [upd_ne ne]; exact upd_same, ?_, ?_⟩⟩⟩
  · rw [upd_ne ne] at hdx
    exact hdx
  · rw [upd_ne ne] at hdx
    refine k dx _ hdx upd_same fun b o e => ?_
    have nb : b ≠ x := ne_of_none e hx
    have nd : b ≠ dx := ne_of_none e hdx
    rw [upd_ne nd, del_ne nb, upd_ne nb, upd_ne nd, upd_ne nb]
    exact e
/-- what is asked of a name: told, or unknown -/
def spAsk (C CU : Addr) (f g : List (Str × Int) → List KeyE → List SvE → Str → Option V) : Sp := fun vs H Q E => ∃ (p : Addr) (n : Str) (ts : List (Str × Int)) (ks : List KeyE) (ss : List SvE) (mt ms : Nat), vs = [.ref p, .str n] ∧ SchAt C p H ts ks ss mt ms ∧
  (∀ v, f ts ks ss n = some v → ∃ u, g ts ks ss n = some u ∧ Q u H) ∧ (f ts ks ss n = none → Unk CU (.str n) H E)
/-! ### is_whole, capped_names -/
def svAt (ss : List SvE) (n : Str) : Option SvE := ss.find? fun b => decide (b.name = n)
theorem svAt_val (n : Str) : ∀ ss : List SvE, valV (svK ss) (Sum.inr n) = (svAt ss n).map fun b => V.ref b.at_
  | [] => rfl
  | b :: ks => by
    have ih := svAt_val n ks
    unfold svAt svK at ih ⊢
    rw [List.map_cons]
    by_cases e : b.name = n
    · rw [valV_pos (by rw [e])]
      simp [e]
    · rw [valV_neg (fun z => e (Sum.inr.inj z)), ih]
      simp [e]
theorem svAt_mem {ss : List SvE} {n : Str} {b : SvE} (h : svAt ss n = some b) : b ∈ ss ∧ b.name = n := by
  unfold svAt at h
  exact ⟨List.mem_of_find?_eq_some h, by simpa using List.find?_some h⟩
def spAskW (C CU : Addr) : Sp := fun vs H Q E => ∃ (p : Addr) (n : Str) (ts : List (Str × Int)) (ks : List KeyE) (ss : List SvE) (mt ms : Nat), vs = [.ref p, .str n] ∧ SchAt C p H ts ks ss mt ms ∧
  (∀ b, svAt ss n = some b → ∀ H', Same H H' → Q (.bl (whE ts ks b)) H') ∧ (svAt ss n = none → Unk CU (.str n) H E)
end
def Low (s : Str) : Prop := ∀ c ∈ s.cps.toList, c < 128
theorem low_ok {s : Str} (h : Low s) : PyData.strOk s = true := by
  unfold PyData.strOk
  rw [Array.all_eq_true']
  intro c hc
  have := h c (by simpa using hc)
  exact decide_eq_true (by omega)
theorem dp_strs {K : PySem.W.Frag} {H : Hp} : ∀ ns : List Str, DpAll K H (ns.map V.str) (ns.map PyData.str)
  | [] => .nil
  | n :: ns => .cons (.str n) (dp_strs ns)
theorem lay_strs : ∀ ns : List Str, (∀ s ∈ ns, Low s) → PyData.canLayAll0 (ns.map PyData.str) = true ∧ PyData.depthAll (ns.map PyData.str) = 0
  | [], _ => by simp [PyData.canLayAll0, PyData.depthAll]
  | n :: ns, h => by
    obtain ⟨h1, h2⟩ := lay_strs ns fun x hx => h x (List.mem_cons_of_mem _ hx)
    simp only [List.map_cons, PyData.canLayAll0, PyData.depthAll, PyData.canLay0, PyData.depth, low_ok (h n List.mem_cons_self), h1, h2, Bool.and_self, true_and]
    rfl
theorem strs_data {K : PySem.W.Frag} {H : Hp} {ns : List Str} (h : ∀ s ∈ ns, Low s) : ∃ dd, (∀ r, H r = some (.lst (ns.map V.str)) → Dp K H (.ref r) dd) ∧ SeqAt.shaped dd = true ∧ PyData.eqv dd dd = true := by
  obtain ⟨h1, h2⟩ := lay_strs ns h
  have hc : (PyData.list (ns.map PyData.str)).canLay0 = true := by simp only [PyData.canLay0, h1]
  refine ⟨.list (ns.map PyData.str), fun r hr => .lst (.of hr) (dp_strs ns), ?_, PySem.SeqAt.eqv_refl _ hc⟩
  unfold SeqAt.shaped
  rw [hc, Bool.true_and]
  exact decide_eq_true (by simp only [PyData.depth, h2]; omega)
theorem wd_low {s : Str} (h : Wd s) : Low s := fun c hc => by
  have := (h.2.2 c hc).2
  omega
theorem str_shaped {x : Str} (h : Low x) : SeqAt.shaped (.str x) = true := by
  unfold SeqAt.shaped
  simp only [PyData.canLay0, PyData.depth, low_ok h]
  rfl
theorem strs_shapedL {ns : List Str} (h : ∀ s ∈ ns, Low s) : SeqAt.shaped (.list (ns.map PyData.str)) = true := by
  obtain ⟨h1, h2⟩ := lay_strs ns h
  unfold SeqAt.shaped
  simp only [PyData.canLay0, PyData.depth, h1, h2]
  decide
/-! ### two dicts by what they hold -/
def valP (f : List (Key × PyData)) (k : Key) : Option PyData := (f.find? fun p => decide (p.1 = k)).map (·.2)
def optE : Option PyData → Option PyData → Bool
  | none, none => true
  | some a, some b => PyData.eqv a b
  | _, _ => false
def eqP (f g : List (Key × PyData)) : Bool := (f.length == g.length) && f.all fun p => match valP g p.1 with
  | none => false
  | some v => PyData.eqv p.2 v
theorem valP_mem {k : Key} {v : PyData} {f : List (Key × PyData)} (h : valP f k = some v) : (k, v) ∈ f := by
  unfold valP at h
  cases e : f.find? fun p => decide (p.1 = k) with
  | none => rw [e] at h; cases h
  | some p =>
    rw [e] at h
    have h1 := List.mem_of_find?_eq_some e
    have h2 : p.1 = k := by simpa using List.find?_some e
    have h3 : p = (k, v) := by rw [← h2, ← Option.some.inj h]
    rw [← h3]
    exact h1
theorem valP_nd {f : List (Key × PyData)} (nd : (f.map (·.1)).Nodup) {k : Key} {v : PyData} (h : (k, v) ∈ f) : valP f k = some v := by
  induction f with
  | nil => cases h
  | cons p f ih =>
    rw [List.map_cons] at nd
    obtain ⟨n1, n2⟩ := List.nodup_cons.mp nd
    unfold valP at ih ⊢
    rcases List.mem_cons.mp h with rfl | h
    · rw [List.find?_cons_of_pos (by simp)]
      rfl
    · rw [List.find?_cons_of_neg ?_]
      · exact ih n2 h
      · intro z
        have z' : p.1 = k := by simpa using z
        exact n1 (by rw [z']; exact List.mem_map.mpr ⟨_, h, rfl⟩)
theorem valP_none {f : List (Key × PyData)} {k : Key} (h : valP f k = none) : k ∉ f.map (·.1) := fun hm => by
  obtain ⟨p, hp, e⟩ := List.mem_map.mp hm
  unfold valP at h
  cases e2 : f.find? fun p => decide (p.1 = k) with
  | some q => rw [e2] at h; cases h
  | none =>
    have := List.find?_eq_none.mp e2 p hp
    simp [e] at this
theorem eqP_iff {f g : List (Key × PyData)} (nf : (f.map (·.1)).Nodup) (ng : (g.map (·.1)).Nodup) : eqP f g = true ↔ ∀ k, optE (valP f k) (valP g k) = true := by
  unfold eqP
  rw [Bool.and_eq_true, List.all_eq_true, beq_iff_eq]
  constructor
  · rintro ⟨h1, h2⟩ k
    have sub : ∀ x ∈ f.map (·.1), x ∈ g.map (·.1) := fun x hx => by
      obtain ⟨p, hp, rfl⟩ := List.mem_map.mp hx
      have := h2 p hp
      cases e : valP g p.1 with
      | none => rw [e] at this; cases this
      | some v => exact List.mem_map.mpr ⟨_, valP_mem e, rfl⟩
    have back := (nd_sub nf sub).2 (by rw [List.length_map, List.length_map, h1]; exact Nat.le_refl _)
    cases e1 : valP f k with
    | none =>
      cases e2 : valP g k with
      | none => rfl
      | some v => exact absurd (back k (List.mem_map.mpr ⟨_, valP_mem e2, rfl⟩)) (valP_none e1)
    | some u =>
      have := h2 _ (valP_mem e1)
      cases e2 : valP g k with
      | none =>
        have e2' : valP g (k, u).1 = none := e2
        rw [e2'] at this
        cases this
      | some v =>
        have e2' : valP g (k, u).1 = some v := e2
        rw [e2'] at this
        exact this
  · intro h
    have key : ∀ f g : List (Key × PyData), (∀ k, optE (valP f k) (valP g k) = true) → (f.map (·.1)).Nodup → ∀ x ∈ f.map (·.1), x ∈ g.map (·.1) := fun f g h nf x hx => by
      obtain ⟨p, hp, rfl⟩ := List.mem_map.mp hx
      have := h p.1
      rw [valP_nd nf (k := p.1) (v := p.2) hp] at this
      cases e : valP g p.1 with
      | none => rw [e] at this; cases this
      | some v => exact List.mem_map.mpr ⟨_, valP_mem e, rfl⟩
    have h' : ∀ k, optE (valP g k) (valP f k) = true := fun k => by
      have := h k
      cases e1 : valP f k <;> cases e2 : valP g k <;> rw [e1, e2] at this <;> try (first | rfl | cases this)
      show PyData.eqv _ _ = true
      rw [PySem.W.eqv_comm]
      exact this
    have l1 := (nd_sub nf (key f g h nf)).1
    have l2 := (nd_sub ng (key g f h' ng)).1
    rw [List.length_map, List.length_map] at l1 l2
    refine ⟨by omega, fun p hp => ?_⟩
    have := h p.1
    rw [valP_nd nf (k := p.1) (v := p.2) hp] at this
    cases e : valP g p.1 with
    | none => rw [e] at this; cases this
    | some v => rw [e] at this; exact this
theorem optE_comm (a b : Option PyData) : optE a b = optE b a := by
  cases a <;> cases b <;> try rfl
  exact PySem.W.eqv_comm _ _
theorem eqP_comm {f g : List (Key × PyData)} (nf : (f.map (·.1)).Nodup) (ng : (g.map (·.1)).Nodup) : eqP f g = eqP g f := by
  apply Bool.eq_iff_iff.mpr
  rw [eqP_iff nf ng, eqP_iff ng nf]
  exact ⟨fun h k => by rw [optE_comm]; exact h k, fun h k => by rw [optE_comm]; exact h k⟩
theorem permP_nd {f g : List (Key × PyData)} (p : f.Perm g) (ng : (g.map (·.1)).Nodup) : (f.map (·.1)).Nodup := (p.map (·.1)).nodup_iff.mpr ng
theorem valP_perm {f g : List (Key × PyData)} (p : f.Perm g) (ng : (g.map (·.1)).Nodup) (k : Key) : valP f k = valP g k := by
  cases h : valP g k with
  | some v => exact valP_nd (permP_nd p ng) (p.mem_iff.mpr (valP_mem h))
  | none =>
    cases h' : valP f k with
    | none => rfl
    | some v => rw [valP_nd ng (p.mem_iff.mp (valP_mem h'))] at h; cases h
theorem eqP_perm {f f' g g' : List (Key × PyData)} (p : f.Perm f') (q : g.Perm g') (nf : (f'.map (·.1)).Nodup) (ng : (g'.map (·.1)).Nodup) : eqP f g = eqP f' g' := by
  apply Bool.eq_iff_iff.mpr
  rw [eqP_iff (permP_nd p nf) (permP_nd q ng), eqP_iff nf ng]
  exact ⟨fun h k => by have := h k; rw [valP_perm p nf, valP_perm q ng] at this; exact this, fun h k => by rw [valP_perm p nf, valP_perm q ng]; exact h k⟩
theorem eqP_refl {f : List (Key × PyData)} (nf : (f.map (·.1)).Nodup) (hd : ∀ p ∈ f, SeqAt.shaped p.2 = true) : eqP f f = true := by
  rw [eqP_iff nf nf]
  intro k
  cases e : valP f k with
  | none => rfl
  | some v => exact PySem.SeqAt.eqv_refl v (PySem.SeqAt.canLay_of_shaped (hd _ (valP_mem e)))
/-! data at an address, two levels deep -/
def dt0 : V → PyData
  | .int i => .int i
  | .str s => .str s
  | .bl b => .bool b
  | _ => .none
def dt1 (H : Hp) : V → PyData
  | .ref a => match H a with
    | some (.tup xs) => .tuple (xs.map dt0)
    | _ => .none
  | v => dt0 v
def dt2 (H : Hp) : V → PyData
  | .ref a => match H a with
    | some (.tup xs) => .tuple (xs.map (dt1 H))
    | _ => .none
  | v => dt0 v
/-- a dict at t that holds this data, in any order -/
def DDat (K : PySem.W.Frag) (H : Hp) (t : Addr) (f : List (Key × PyData)) : Prop := ∃ ks, H t = some (.dK ks) ∧ (ks.map fun p => (p.1, dt2 H p.2)).Perm f ∧ ∀ p ∈ ks, Dp K H p.2 (dt2 H p.2) ∧ SeqAt.shaped (dt2 H p.2) = true
theorem valP_map (D : V → PyData) (k : Key) : ∀ ls : List (Key × V), valP (ls.map fun p => (p.1, D p.2)) k = (valV ls k).map D
  | [] => rfl
  | p :: ls => by
    have ih := valP_map D k ls
    unfold valP at ih ⊢
    rw [List.map_cons]
    by_cases e : p.1 = k
    · rw [valV_pos e, List.find?_cons_of_pos (by simp [e])]
      rfl
    · rw [valV_neg e, List.find?_cons_of_neg (by simp [e])]
      exact ih
theorem eqT_P (D : V → PyData) (ks ls : List (Key × V)) : L2.eqT D ks ls = eqP (ks.map fun p => (p.1, D p.2)) (ls.map fun p => (p.1, D p.2)) := by
  unfold L2.eqT eqP
  rw [List.length_map, List.length_map, List.all_map]
  congr 1
  congr 1
  funext p
  show (match valV ls p.1 with | none => false | some v => PyData.eqv (D p.2) (D v)) = match valP (ls.map fun p => (p.1, D p.2)) p.1 with | none => false | some v => PyData.eqv (D p.2) v
  rw [valP_map]
  cases valV ls p.1 <;> rfl
theorem rEqT_of {K : PySem.W.Frag} {H : Hp} {a b : Addr} {f g : List (Key × PyData)} {neg : Bool} {Q : VK} (h1 : DDat K H a f) (h2 : DDat K H b g) (nf : (f.map (·.1)).Nodup) (ng : (g.map (·.1)).Nodup) (q : Q (.bl (if neg then !eqP f g else eqP f g)) H) : rEqT K neg (.ref a) (.ref b) H Q := by
  obtain ⟨ks, e1, p1, d1⟩ := h1
  obtain ⟨ls, e2, p2, d2⟩ := h2
  refine ⟨a, b, ks, ls, dt2 H, rfl, rfl, e1, e2, d1, d2, ?_⟩
  rw [eqT_P, eqP_perm p1 p2 nf ng]
  exact q
theorem DDat.of {K : PySem.W.Frag} {H : Hp} {t : Addr} {kvs : List (Key × V)} {f : List (Key × PyData)} (h : DctAt H t kvs) (e : (kvs.map fun p => (p.1, dt2 H p.2)) = f) (hd : ∀ p ∈ kvs, Dp K H p.2 (dt2 H p.2) ∧ SeqAt.shaped (dt2 H p.2) = true) : DDat K H t f := by
  obtain ⟨ks, e1, p⟩ := h
  exact ⟨ks, e1, by rw [← e]; exact p.map _, fun x hx => hd x (p.mem_iff.mp hx)⟩
/-! the data of tables, keys and services -/
def tabP (ts : List (Str × Int)) : List (Key × PyData) := ts.map fun p => (Sum.inr p.1, .int p.2)
def keyP (ks : List KeyE) : List (Key × PyData) := ks.map fun b => (Sum.inr b.1, .tuple (b.2.2.map PyData.int))
def capP : Option Int → PyData
  | none => .none
  | some c => .int c
def svP (ss : List SvE) : List (Key × PyData) := ss.map fun b => (Sum.inr b.name, .tuple [.str b.tab, .tuple (b.cols.map PyData.int), capP b.cap])
theorem tabP_nd {ts : List (Str × Int)} {m : Nat} {wm : Int} (h : Tabs ts m wm) : ((tabP ts).map (·.1)).Nodup := by
  have := tab_nd h
  unfold tabK at this
  unfold tabP
  rw [List.map_map] at this ⊢
  exact this
theorem keyP_nd {H : Hp} {ts : List (Str × Int)} {ks : List KeyE} (h : Keys H ts ks) : ((keyP ks).map (·.1)).Nodup := by
  have := inr_nd h.nd
  unfold keyP
  rw [List.map_map] at this ⊢
  exact this
theorem svP_nd {ss : List SvE} {n : Nat} (h : Nms (ss.map (·.name)) n) : ((svP ss).map (·.1)).Nodup := by
  have := inr_nd h.nd
  unfold svP
  rw [List.map_map] at this ⊢
  exact this
theorem wd_strOk {s : Str} (h : Wd s) : PyData.strOk s = true := by
  unfold PyData.strOk
  rw [Array.all_eq_true_iff_forall_mem]
  intro c hc
  have := (h.2.2 c (Array.mem_toList_iff.mpr hc)).2
  exact decide_eq_true (by omega)
theorem ints_tup_shaped (ns : List Int) : SeqAt.shaped (.tuple (ns.map PyData.int)) = true := by
  obtain ⟨h1, h2⟩ := lay_ints ns
  show ((PyData.tuple (ns.map PyData.int)).canLay0 && decide ((PyData.tuple (ns.map PyData.int)).depth ≤ 64)) = true
  simp only [PyData.canLay0, PyData.depth, h1, h2]
  decide
theorem sv_shaped {n : Str} (hn : PyData.strOk n = true) (ns : List Int) (c : Option Int) : SeqAt.shaped (.tuple [.str n, .tuple (ns.map PyData.int), capP c]) = true := by
  obtain ⟨h1, h2⟩ := lay_ints ns
  show ((PyData.tuple [.str n, .tuple (ns.map PyData.int), capP c]).canLay0 && decide ((PyData.tuple [.str n, .tuple (ns.map PyData.int), capP c]).depth ≤ 64)) = true
  cases c <;> simp only [PyData.canLay0, PyData.depth, PyData.canLayAll0, PyData.depthAll, capP, h1, h2, hn] <;> decide
theorem dt1_ints {H : Hp} {a : Addr} {ns : List Int} (h : H a = some (.tup (ns.map V.int))) : dt1 H (.ref a) = .tuple (ns.map PyData.int) := by
  show (match H a with | some (.tup xs) => PyData.tuple (xs.map dt0) | _ => .none) = _
  rw [h]
  show PyData.tuple ((ns.map V.int).map dt0) = _
  rw [List.map_map]
  rfl
theorem dt2_ints {H : Hp} {a : Addr} {ns : List Int} (h : H a = some (.tup (ns.map V.int))) : dt2 H (.ref a) = .tuple (ns.map PyData.int) := by
  show (match H a with | some (.tup xs) => PyData.tuple (xs.map (dt1 H)) | _ => .none) = _
  rw [h]
  show PyData.tuple ((ns.map V.int).map (dt1 H)) = _
  rw [List.map_map]
  rfl
theorem dt_cap (H : Hp) (c : Option Int) : dt1 H (capV c) = capP c := by cases c <;> rfl
theorem dp_cap {K : PySem.W.Frag} {H : Hp} (c : Option Int) : Dp K H (capV c) (capP c) := by
  cases c with
  | none => exact .non
  | some i => exact .int i
theorem dt2_told {H : Hp} {v ga : Addr} {n : Str} {cs : List Int} {c : Option Int} (h : Told H v n ga cs c) : dt2 H (.ref v) = .tuple [.str n, .tuple (cs.map PyData.int), capP c] := by
  show (match H v with | some (.tup xs) => PyData.tuple (xs.map (dt1 H)) | _ => .none) = _
  rw [h.tup]
  show PyData.tuple [dt1 H (.str n), dt1 H (.ref ga), dt1 H (capV c)] = _
  rw [dt1_ints h.cols, dt_cap]
  rfl
theorem ddat_tab {K : PySem.W.Frag} {H : Hp} {t : Addr} {ts : List (Str × Int)} (h : DctAt H t (tabK ts)) : DDat K H t (tabP ts) := by
  refine .of h ?_ fun p hp => ?_
  · unfold tabK tabP
    rw [List.map_map]
    rfl
  · obtain ⟨b, _, rfl⟩ := List.mem_map.mp hp
    exact ⟨.int _, rfl⟩
theorem ddat_key {K : PySem.W.Frag} {H : Hp} {t : Addr} {ts : List (Str × Int)} {ks : List KeyE} (h : DctAt H t (keyK ks)) (hK : Keys H ts ks) : DDat K H t (keyP ks) := by
  refine .of h ?_ fun p hp => ?_
  · unfold keyK keyP
    rw [List.map_map]
    refine List.map_congr_left fun b hb => ?_
    show (Sum.inr b.1, dt2 H (.ref b.2.1)) = _
    rw [dt2_ints (hK.at_ b hb)]
  · obtain ⟨b, hb, rfl⟩ := List.mem_map.mp hp
    show Dp K H (.ref b.2.1) (dt2 H (.ref b.2.1)) ∧ SeqAt.shaped (dt2 H (.ref b.2.1)) = true
    rw [dt2_ints (hK.at_ b hb)]
    exact ⟨.tup (.of (hK.at_ b hb)) (dp_ints _), ints_tup_shaped _⟩
theorem ddat_sv {K : PySem.W.Frag} {H : Hp} {t : Addr} {ss : List SvE} (h : DctAt H t (svK ss)) (hS : ∀ b ∈ ss, Told H b.at_ b.tab b.ga b.cols b.cap ∧ Wd b.tab) : DDat K H t (svP ss) := by
  refine .of h ?_ fun p hp => ?_
  · unfold svK svP
    rw [List.map_map]
    refine List.map_congr_left fun b hb => ?_
    show (Sum.inr b.name, dt2 H (.ref b.at_)) = _
    rw [dt2_told (hS b hb).1]
  · obtain ⟨b, hb, rfl⟩ := List.mem_map.mp hp
    show Dp K H (.ref b.at_) (dt2 H (.ref b.at_)) ∧ SeqAt.shaped (dt2 H (.ref b.at_)) = true
    rw [dt2_told (hS b hb).1]
    exact ⟨.tup (.of (hS b hb).1.tup) (.cons (.str _) (.cons (.tup (.of (hS b hb).1.cols) (dp_ints _)) (.cons (dp_cap _) .nil))), sv_shaped (wd_strOk (hS b hb).2) _ _⟩
/-! ### uncapped -/
def uncE (ss : List SvE) (n : Str) (p : Addr) : List SvE := ss.map fun c => if c.name = n then { c with at_ := p, cap := none } else c
theorem uncE_names (ss : List SvE) (n : Str) (p : Addr) : (uncE ss n p).map (·.name) = ss.map (·.name) := by
  unfold uncE
  rw [List.map_map]
  refine List.map_congr_left fun c _ => ?_
  show (if c.name = n then _ else c).name = c.name
  split <;> rfl
theorem fillE_unc (ts : List (Str × Int)) (ks : List KeyE) (n : Str) (p : Addr) : ∀ ss : List SvE, (fillE ts ks (uncE ss n p)).Sublist (fillE ts ks ss)
  | [] => List.Sublist.refl _
  | c :: ss => by
    have ih := fillE_unc ts ks n p ss
    unfold fillE uncE at ih ⊢
    rw [List.map_cons]
    by_cases e : c.name = n
    · rw [if_pos e]
      have hw : whE ts ks { c with at_ := p, cap := none } = true := rfl
      rw [List.filter_cons_of_neg (by rw [hw]; decide)]
      by_cases h : whE ts ks c = true
      · rw [List.filter_cons_of_neg (by rw [h]; decide)]
        exact ih
      · rw [List.filter_cons_of_pos (by simp [h]), List.map_cons]
        exact ih.cons _
    · rw [if_neg e]
      by_cases h : whE ts ks c = true
      · rw [List.filter_cons_of_neg (by rw [h]; decide), List.filter_cons_of_neg (by rw [h]; decide)]
        exact ih
      · rw [List.filter_cons_of_pos (by simp [h]), List.filter_cons_of_pos (by simp [h]), List.map_cons, List.map_cons]
        exact ih.cons₂ _
theorem putK_map {ss : List SvE} {n : Str} (p : Addr) (h : n ∈ ss.map (·.name)) : putK (svK ss) (Sum.inr n) (V.ref p) = svK (uncE ss n p) := by
  unfold putK
  have ha : ((svK ss).any fun kv => decide (kv.1 = Sum.inr n)) = true := by
    obtain ⟨b, hb, e⟩ := List.mem_map.mp h
    exact List.any_eq_true.mpr ⟨_, List.mem_map.mpr ⟨b, hb, rfl⟩, decide_eq_true (by rw [e])⟩
  rw [if_pos ha]
  unfold svK uncE
  rw [List.map_map, List.map_map]
  refine List.map_congr_left fun c _ => ?_
  show (if (Sum.inr c.name : Key) = Sum.inr n then _ else _) = (fun b : SvE => ((Sum.inr b.name : Key), V.ref b.at_)) (if c.name = n then _ else c)
  by_cases e : c.name = n
  · rw [if_pos e, if_pos (by rw [e])]
  · rw [if_neg e, if_neg (fun z => e (Sum.inr.inj z))]
theorem putK_perm {κ : Type} [DecidableEq κ] {a b : List (κ × V)} (p : a.Perm b) (k : κ) (v : V) : (putK a k v).Perm (putK b k v) := by
  unfold putK
  have e : (a.any fun kv => decide (kv.1 = k)) = b.any fun kv => decide (kv.1 = k) := by
    apply Bool.eq_iff_iff.mpr
    rw [List.any_eq_true, List.any_eq_true]
    exact ⟨fun ⟨x, hx, h⟩ => ⟨x, p.mem_iff.mp hx, h⟩, fun ⟨x, hx, h⟩ => ⟨x, p.mem_iff.mpr hx, h⟩⟩
  rw [e]
  split
  · exact p.map _
  · exact p.append_right _
theorem name_uniq : ∀ {ss : List SvE} {b c : SvE}, (ss.map (·.name)).Nodup → b ∈ ss → c ∈ ss → b.name = c.name → b = c
  | x :: ss, b, c, nd, hb, hc, e => by
    rw [List.map_cons] at nd
    obtain ⟨n1, n2⟩ := List.nodup_cons.mp nd
    rcases List.mem_cons.mp hb with rfl | hb
    · rcases List.mem_cons.mp hc with rfl | hc
      · rfl
      · exact absurd (by rw [e]; exact List.mem_map.mpr ⟨_, hc, rfl⟩) n1
    · rcases List.mem_cons.mp hc with rfl | hc
      · exact absurd (by rw [← e]; exact List.mem_map.mpr ⟨_, ‹b ∈ ss›, rfl⟩) n1
      · exact name_uniq n2 ‹b ∈ ss› ‹c ∈ ss› e
section
variable {P : Program} {w : World} {K : PySem.W.Frag} {mg : Str → Option Value} {base : Heap} {a : Nat → Addr} {d : Nat → FuncData}
/-! ### == of two schemas -/
def schB (ts : List (Str × Int)) (ks : List KeyE) (ss : List SvE) (ts' : List (Str × Int)) (ks' : List KeyE) (ss' : List SvE) : Bool := eqP (tabP ts) (tabP ts') && (eqP (keyP ks) (keyP ks') && eqP (svP ss) (svP ss'))
theorem sv_toldW {H : Hp} {ts : List (Str × Int)} {ss : List SvE} {m : Nat} {wm : Int} (hT : Tabs ts m wm) (h : ∀ b ∈ ss, SvOk H ts b) : ∀ b ∈ ss, Told H b.at_ b.tab b.ga b.cols b.cap ∧ Wd b.tab := fun b hb => by
  obtain ⟨t, ⟨w, hw, _⟩, _⟩ := h b hb
  exact ⟨t, hT.nm.wd _ (List.mem_map.mpr ⟨_, hw, rfl⟩)⟩
def spSEq (C : Addr) : Sp := fun vs H Q _ => ∃ (p q : Addr) (ts : List (Str × Int)) (ks : List KeyE) (ss : List SvE) (m n : Nat) (ts' : List (Str × Int)) (ks' : List KeyE) (ss' : List SvE) (m' n' : Nat), vs = [.ref p, .ref q] ∧ SchAt C p H ts ks ss m n ∧ SchAt C q H ts' ks' ss' m' n' ∧ Q (.bl (schB ts ks ss ts' ks' ss')) H
theorem ok_seq (T : Txt K mg a d) : FnOk P w K mg base CX0 1 (a 5204) (d 5204) ["self", "other"] (spSEq (a 42)) := by
  refine T.F5204.ok sc_Schema___eq__ (fun vs H Q E h => ?_) (fun cdv A outer s H vs Q E hr h => ?_)
  · obtain ⟨p, q, ts, ks, ss, m, n, ts', ks', ss', m', n', rfl, _⟩ := h
    rfl
  · obtain ⟨p, q, ts, ks, ss, m, n, ts', ks', ss', m', n', rfl, ⟨dx, d1, d2, d3, O⟩, ⟨dy, e1, e2, e3, O'⟩, k⟩ := h
    refine ⟨_, (pss_one (ps_ret (pe_and (pe_callB (id := "isinstance")  (C8.call_isC T.ic_42) (by rfl) T.z_isinstance (by decide +kernel) (pa_cons (pv 1) (pa_cons (pe_glob (v := .ref (a 42)) (by rfl) T.cg_42 rfl) pa_nil))) (pe_and (pe_cmpR (op_eqT (hu_of65 hr)) (pe_fld (pv 0) rfl) (pe_fld (pv 1) rfl) (nomark _)) (pe_and (pe_cmpR (op_eqT (hu_of65 hr)) (pe_fld (pv 0) rfl) (pe_fld (pv 1) rfl) (nomark _)) (pe_one (pe_cmpR (op_eqT (hu_of65 hr)) (pe_fld (pv 0) rfl) (pe_fld (pv 1) rfl) (nomark _)))))))), ?_⟩
    refine ⟨_, rfl, q, dy, _, rfl, O'.ob, true, rfl, ?_⟩
    unfold schB at k
    refine ⟨_, rfl, p, _, dx, _, _, rfl, O.ob, T.cl_42, T.no_42__tables, flds_t _ _ _, _, rfl, q, _, dy, _, _, rfl, O'.ob, T.cl_42, T.no_42__tables, flds_t _ _ _, rEqT_of (ddat_tab O.tb) (ddat_tab O'.tb) (tabP_nd O.hT) (tabP_nd O'.hT) ⟨_, rfl, ?_⟩⟩
    show if eqP (tabP ts) (tabP ts') = true then _ else _
    cases h1 : eqP (tabP ts) (tabP ts') with
    | false =>
      rw [h1] at k
      exact k
    | true =>
      rw [h1, Bool.true_and] at k
      refine ⟨_, rfl, p, _, dx, _, _, rfl, O.ob, T.cl_42, T.no_42__keys, flds_k _ _ _, _, rfl, q, _, dy, _, _, rfl, O'.ob, T.cl_42, T.no_42__keys, flds_k _ _ _, rEqT_of (ddat_key O.ky O.hK) (ddat_key O'.ky O'.hK) (keyP_nd O.hK) (keyP_nd O'.hK) ⟨_, rfl, ?_⟩⟩
      show if eqP (keyP ks) (keyP ks') = true then _ else _
      cases h2 : eqP (keyP ks) (keyP ks') with
      | false =>
        rw [h2] at k
        exact k
      | true =>
        rw [h2, Bool.true_and] at k
        exact ⟨_, rfl, p, _, dx, _, _, rfl, O.ob, T.cl_42, T.no_42__services, flds_s _ _ _, _, rfl, q, _, dy, _, _, rfl, O'.ob, T.cl_42, T.no_42__services, flds_s _ _ _, rEqT_of (ddat_sv O.sv (sv_toldW O.hT O.hS.ok)) (ddat_sv O'.sv (sv_toldW O'.hT O'.hS.ok)) (svP_nd O.hS.nm) (svP_nd O'.hS.nm) k⟩
end
theorem schB_refl {H : Hp} {ts : List (Str × Int)} {ks : List KeyE} {ss : List SvE} {m n : Nat} (hT : Tabs ts m 4) (hK : Keys H ts ks) (hS : Svcs H ts ks ss n) : schB ts ks ss ts ks ss = true := by
  unfold schB
  rw [eqP_refl (tabP_nd hT) (fun p hp => ?_), eqP_refl (keyP_nd hK) (fun p hp => ?_), eqP_refl (svP_nd hS.nm) (fun p hp => ?_)]
  · rfl
  · obtain ⟨b, hb, rfl⟩ := List.mem_map.mp hp
    exact sv_shaped (wd_strOk (sv_toldW hT hS.ok b hb).2) _ _
  · obtain ⟨b, hb, rfl⟩ := List.mem_map.mp hp
    exact ints_tup_shaped _
  · obtain ⟨b, hb, rfl⟩ := List.mem_map.mp hp
    simp [SeqAt.shaped, PyData.canLay0, PyData.depth]
theorem mk_schema {C t k v : Addr} {H : Hp} {ts : List (Str × Int)} {ks : List KeyE} {ss : List SvE} {m n : Nat} {Q' : Hp → Prop} {E : XK} {x dx : Addr} (ht : DctAt H t (tabK ts)) (hk : DctAt H k (keyK ks)) (hv : DctAt H v (svK ss)) (hT : Tabs ts m 4) (hK : Keys H ts ks) (hS : Svcs H ts ks ss n) (m1 : 1 ≤ m) (m5 : m ≤ 5) (n1 : 1 ≤ n) (n8 : n ≤ 8)
    (fx : H x = none) (fdx : H dx = none) (ndx : dx ≠ x) (q : ∀ H', SchAt C x H' ts ks ss m n → Same H H' → Q' H') :
    spSInit C (.ref x :: ([.ref t, .ref k, .ref v] ++ [])) (upd (upd H dx (.own x)) x (.ins C dx [])) (fun u H2 => u = .non ∧ Q' H2) E := by
  have s1 := same_upd (o := .own x) fdx
  have f1 : upd H dx (.own x) x = none := by rw [upd_ne ndx.symm]; exact fx
  have s := s1.trans (same_upd (o := .ins C dx []) f1)
  exact ⟨x, dx, t, k, v, ts, ks, ss, m, n, rfl, upd_same, ht.same s, hk.same s, hv.same s, hT, hK.mono fun _ _ e => s _ _ e, hS.mono fun _ _ e => s _ _ e, m1, m5, n1, n8, fun Hz e1 e2 e3 Oz _ _ _ keep => ⟨rfl, q Hz ⟨dx, e1, e2, e3, Oz⟩ fun b u e => keep b u (ne_of_none e fx) (s _ _ e)⟩⟩
/-! ### things of any kind -/
def tupOf (H : Hp) : V → Option (List V)
  | .ref a => match H a with
    | some (.tup xs) => some xs
    | _ => none
  | _ => none
theorem tupOf_tup {H : Hp} {a : Addr} {xs : List V} (e : H a = some (.tup xs)) : tupOf H (.ref a) = some xs := by
  show (match H a with | some (.tup xs) => some xs | _ => none) = _
  rw [e]
theorem tupOf_lst {H : Hp} {a : Addr} {xs : List V} (e : H a = some (.lst xs)) : tupOf H (.ref a) = none := by
  show (match H a with | some (.tup xs) => some xs | _ => none) = _
  rw [e]
def goCols (w : Int) : Int → List V → Bool
  | _, [] => true
  | l, .int i :: xs => decide (l ≤ i ∧ i < w) && goCols w (i + 1) xs
  | _, _ :: _ => false
def colsB (H : Hp) (v : V) (w : Int) : Bool := match tupOf H v with
  | some xs => goCols w 0 xs
  | none => false
def countB (m : Int) : V → Bool
  | .int i => decide (1 ≤ i ∧ i ≤ m)
  | _ => false
def keyB (H : Hp) (v : V) (w : Int) : Bool := match tupOf H v with
  | some xs => goCols w 0 xs && decide (0 < (xs.length : Int) ∧ (xs.length : Int) < w)
  | none => false
def widthOf (kvs : List (Key × V)) (n : Str) : Option Int := match valV kvs (Sum.inr n) with
  | some (.int w) => some w
  | _ => none
def svcL (H : Hp) (kvs : List (Key × V)) : List V → Bool
  | [x, g, c] => (match x with
    | .str n => (match widthOf kvs n with
      | some w => colsB H g w
      | none => false)
    | _ => false) && (decide (c = .non) || countB 4 c)
  | _ => false
def svcB (H : Hp) (kvs : List (Key × V)) (v : V) : Bool := match tupOf H v with
  | some xs => svcL H kvs xs
  | none => false
theorem svcL_len {H : Hp} {kvs : List (Key × V)} : ∀ {xs : List V}, xs.length ≠ 3 → svcL H kvs xs = false
  | [], _ => rfl
  | [_], _ => rfl
  | [_, _], _ => rfl
  | [_, _, _], h => absurd rfl h
  | _ :: _ :: _ :: _ :: _, _ => rfl
/-- what was a tuple or a list is one still -/
structure Kp (H H' : Hp) : Prop where
  tup : ∀ a xs, H a = some (.tup xs) → H' a = some (.tup xs)
  lst : ∀ a xs, H a = some (.lst xs) → ∃ ys, H' a = some (.lst ys)
theorem Kp.refl (H : Hp) : Kp H H := ⟨fun _ _ e => e, fun _ xs e => ⟨xs, e⟩⟩
theorem Kp.trans {H H1 H2 : Hp} (a : Kp H H1) (b : Kp H1 H2) : Kp H H2 := ⟨fun x xs e => b.tup _ _ (a.tup x xs e), fun x xs e => by
  obtain ⟨ys, e1⟩ := a.lst x xs e
  exact b.lst x ys e1⟩
theorem Kp.same {H H' : Hp} (s : Same H H') : Kp H H' := ⟨fun _ _ e => s _ _ e, fun _ xs e => ⟨xs, s _ _ e⟩⟩
theorem Kp.chg {H H' : Hp} {p : Addr} (hP : PoolAt H p) (c : Chg p H H') : Kp H H' := ⟨chg_tup hP c, fun a xs e => by
  by_cases n : a = p
  · subst n
    obtain ⟨p0, p1, p2, p3, r, e', _⟩ := c.1
    exact ⟨_, e'⟩
  · exact ⟨xs, c.at n e⟩⟩
theorem Kp.dict {H : Hp} {t : Addr} {kvs : List (Key × V)} {o : HO} (e : H t = some (.dK kvs)) : Kp H (upd H t o) := ⟨upd_tup e (by intro _ z; cases z), fun a xs e' => ⟨xs, by
  rw [upd_ne (ne_of e' e (by intro z; cases z))]
  exact e'⟩⟩
theorem Thg.kp {H H' : Hp} {v : V} (h : Thg H v) (k : Kp H H') : Thg H' v := by
  cases h with
  | int i => exact .int i
  | bl b => exact .bl b
  | non => exact .non
  | str s h hc => exact .str s h hc
  | lst e =>
    obtain ⟨ys, e'⟩ := k.lst _ _ e
    exact .lst e'
  | tup e => exact .tup (k.tup _ _ e)
theorem tupOf_kp {H H' : Hp} {v : V} (h : Thg H v) (k : Kp H H') : tupOf H' v = tupOf H v := by
  cases h with
  | int i => rfl
  | bl b => rfl
  | non => rfl
  | str s h hc => rfl
  | lst e =>
    obtain ⟨ys, e'⟩ := k.lst _ _ e
    rw [tupOf_lst e, tupOf_lst e']
  | tup e => rw [tupOf_tup e, tupOf_tup (k.tup _ _ e)]
/-- a thing; if it is a tuple, its parts are things -/
structure Th1 (H : Hp) (v : V) : Prop where
  th : Thg H v
  it : ∀ xs, tupOf H v = some xs → xs.length ≤ 100 ∧ ∀ x ∈ xs, Thg H x
structure Th2 (H : Hp) (v : V) : Prop where
  th : Thg H v
  it : ∀ xs, tupOf H v = some xs → xs.length ≤ 100 ∧ ∀ x ∈ xs, Th1 H x
theorem Th1.kp {H H' : Hp} {v : V} (h : Th1 H v) (k : Kp H H') : Th1 H' v := ⟨h.th.kp k, fun xs e => by
  rw [tupOf_kp h.th k] at e
  exact ⟨(h.it xs e).1, fun x hx => ((h.it xs e).2 x hx).kp k⟩⟩
theorem Th2.kp {H H' : Hp} {v : V} (h : Th2 H v) (k : Kp H H') : Th2 H' v := ⟨h.th.kp k, fun xs e => by
  rw [tupOf_kp h.th k] at e
  exact ⟨(h.it xs e).1, fun x hx => ((h.it xs e).2 x hx).kp k⟩⟩
theorem Th1.flat {H : Hp} {v : V} (h : Thg H v) (n : tupOf H v = none) : Th1 H v := ⟨h, fun xs e => by rw [n] at e; cases e⟩
theorem Th2.flat {H : Hp} {v : V} (h : Thg H v) (n : tupOf H v = none) : Th2 H v := ⟨h, fun xs e => by rw [n] at e; cases e⟩
theorem Th1.tup {H : Hp} {a : Addr} {xs : List V} (e : H a = some (.tup xs)) (l : xs.length ≤ 100) (h : ∀ x ∈ xs, Thg H x) : Th1 H (.ref a) := ⟨.tup e, fun ys e' => by
  rw [tupOf_tup e] at e'
  cases e'
  exact ⟨l, h⟩⟩
theorem Th2.tup {H : Hp} {a : Addr} {xs : List V} (e : H a = some (.tup xs)) (l : xs.length ≤ 100) (h : ∀ x ∈ xs, Th1 H x) : Th2 H (.ref a) := ⟨.tup e, fun ys e' => by
  rw [tupOf_tup e] at e'
  cases e'
  exact ⟨l, h⟩⟩
theorem Th1.up {H : Hp} {v : V} (h : Th1 H v) (hx : ∀ xs, tupOf H v = some xs → ∀ x ∈ xs, tupOf H x = none) : Th2 H v := ⟨h.th, fun xs e => ⟨(h.it xs e).1, fun x hm => .flat ((h.it xs e).2 x hm) (hx xs e x hm)⟩⟩
theorem colsB_kp {H H' : Hp} {v : V} {w : Int} (h : Thg H v) (k : Kp H H') : colsB H' v w = colsB H v w := by
  unfold colsB
  rw [tupOf_kp h k]
theorem keyB_kp {H H' : Hp} {v : V} {w : Int} (h : Thg H v) (k : Kp H H') : keyB H' v w = keyB H v w := by
  unfold keyB
  rw [tupOf_kp h k]
/-! ### a dict of names -/
def kvK (kv : List (Str × V)) : List (Key × V) := kv.map fun p => (Sum.inr p.1, p.2)
theorem keys_kv (kv : List (Str × V)) : (kvK kv).map (·.1) = (kv.map (·.1)).map Sum.inr := by
  unfold kvK
  rw [List.map_map, List.map_map]
  rfl
theorem kv_nd {kv : List (Str × V)} (h : (kv.map (·.1)).Nodup) : ((kvK kv).map (·.1)).Nodup := by
  rw [keys_kv]
  exact inr_nd h
def valN (kv : List (Str × V)) (n : Str) : V := (valV (kvK kv) (Sum.inr n)).getD .non
theorem valN_mem {kv : List (Str × V)} {n : Str} (h : n ∈ kv.map (·.1)) (nd : (kv.map (·.1)).Nodup) : valV (kvK kv) (Sum.inr n) = some (valN kv n) ∧ (n, valN kv n) ∈ kv := by
  obtain ⟨p, hp, rfl⟩ := List.mem_map.mp h
  have e : valV (kvK kv) (Sum.inr p.1) = some p.2 := val_nodup (kvs := kvK kv) (kv_nd nd) (Sum.inr p.1, p.2) (List.mem_map.mpr ⟨p, hp, rfl⟩)
  have e2 : valN kv p.1 = p.2 := by
    unfold valN
    rw [e]
    rfl
  rw [e2]
  exact ⟨e, hp⟩
/-- names that are texts of small signs -/
def NmOk (s : Str) : Prop := s.length ≤ 100 ∧ Low s
theorem NmOk.thg {H : Hp} {s : Str} (h : NmOk s) : Thg H (.str s) := .str s (by have := h.1; omega) fun c hc => h.2 c hc
structure Dn (H : Hp) (t : Addr) (kv : List (Str × V)) : Prop where
  at_ : H t = some (.dK (kvK kv))
  nd : (kv.map (·.1)).Nodup
  nm : ∀ p ∈ kv, NmOk p.1
  len : kv.length < 64
theorem Dn.get {H : Hp} {t : Addr} {kv : List (Str × V)} (h : Dn H t kv) {n : Str} (hn : n ∈ kv.map (·.1)) : DGet H t (.str n) (some (valN kv n)) := by
  have g := DGet.k (k := Sum.inr n) h.at_
  rw [(valN_mem hn h.nd).1] at g
  exact g
noncomputable def sortN (ns : List Str) : List Str := Classical.epsilon fun ys => ys.Perm ns ∧ PyProof.Rows.sortedS ys = true
theorem sortN_eq {ns ys : List Str} (p : ys.Perm ns) (s : PyProof.Rows.sortedS ys = true) : sortN ns = ys := by
  have h := Classical.epsilon_spec (p := fun ys : List Str => ys.Perm ns ∧ PyProof.Rows.sortedS ys = true) ⟨ys, p, s⟩
  exact sorted_uniq (h.1.trans p.symm) h.2 s
theorem find_at {α : Type} {p : α → Bool} {x : α} : ∀ {ys : List α} {i : Nat}, (∀ y ∈ ys.take i, p y = false) → ys[i]? = some x → p x = true → ys.find? p = some x
  | [], _, _, h, _ => by simp at h
  | y :: ys, 0, _, h, e => by
    cases h
    exact List.find?_cons_of_pos e
  | y :: ys, i + 1, h, hx, e => by
    rw [List.find?_cons_of_neg (by rw [h y (by simp)]; decide)]
    exact find_at (i := i) (fun z hz => h z (by simp [hz])) (by simpa using hx) e
theorem find_no {α : Type} {p : α → Bool} {ys : List α} (h : ∀ y ∈ ys, p y = false) : ys.find? p = none := List.find?_eq_none.mpr fun y hy => by rw [h y hy]; decide
theorem take_snoc {α : Type} {ys : List α} {i : Nat} {x : α} (h : ys[i]? = some x) : ys.take (i + 1) = ys.take i ++ [x] := by
  rw [List.take_add_one, h]
  rfl
/-- how an error of two fields goes out -/
def Er2 (C : Addr) (f g : Str) (u v : V) (H : Hp) (E : XK) : Prop := ∀ dx H', H dx = none → H' dx = some (.xd [(g, v), (f, u)]) → Same H H' → E (.ref C) (some dx) H'
def spI2 (C : Addr) (f g : Str) : Sp := fun vs H Q _ => ∃ (x : Addr) (u v : V), vs = [.ref x, u, v] ∧ H x = some (exo x C none) ∧ ∀ dx H', H dx = none → dx ≠ x → H' x = some (exo x C (some dx)) → H' dx = some (exd dx [(g, v), (f, u)]) → (∀ b o, b ≠ x → b ≠ dx → H b = some o → H' b = some o) → Q .non H'
theorem er2_raise {C : Addr} {f g : Str} {u v : V} {H : Hp} {E : XK} (k : Er2 C f g u v H E) : ([u, v] : List V).length ≤ 1000 ∧ ∀ x, H x = none → spI2 C f g (.ref x :: ([u, v] ++ [])) (upd H x (exo x C none))
    (fun z H2 => z = .non ∧ ∃ (dd : Addr) (fs : List (Str × V)), H2 x = some (exo x C (some dd)) ∧ H2 dd = some (exd dd fs) ∧ H dd = none ∧ E (.ref C) (some dd) (upd (del H2 x) dd (.xd fs))) (fun _ _ _ => False) := by
  refine ⟨by show 2 ≤ 1000; decide, fun x hx => ⟨x, u, v, rfl, upd_same, fun dx H' hdx ne e1 e2 keep => ⟨rfl, dx, _, e1, e2, ?_, ?_⟩⟩⟩
  · rw [upd_ne ne] at hdx
    exact hdx
  · rw [upd_ne ne] at hdx
    refine k dx _ hdx upd_same fun b o e => ?_
    have nb : b ≠ x := ne_of_none e hx
    have nd : b ≠ dx := ne_of_none e hdx
    rw [upd_ne nd, del_ne nb]
    exact keep b o nb nd (by rw [upd_ne nb]; exact e)
theorem Thg.tyT {K : PySem.W.Frag} {H : Hp} {v : V} (h : Thg H v) : ∃ n, TyX K H v (.type n) ∧ kitB n "tuple" = some (tupOf H v).isSome := by
  cases h with
  | int i => exact ⟨_, .base (.int _), show kitB "int" "tuple" = some false by decide +kernel⟩
  | bl b => exact ⟨_, .base (.bl _), show kitB "bool" "tuple" = some false by decide +kernel⟩
  | non => exact ⟨_, .base .non, show kitB "NoneType" "tuple" = some false by decide +kernel⟩
  | str s => exact ⟨_, .base (.str _), show kitB "str" "tuple" = some false by decide +kernel⟩
  | lst e => exact ⟨_, .base (.lst e), by rw [tupOf_lst e]; exact show kitB "list" "tuple" = some false by decide +kernel⟩
  | tup e => exact ⟨_, .base (.tup e), by rw [tupOf_tup e]; exact show kitB "tuple" "tuple" = some true by decide +kernel⟩
theorem tupOf_some {H : Hp} {v : V} {xs : List V} (h : tupOf H v = some xs) : ∃ a, v = .ref a ∧ H a = some (.tup xs) := by
  cases v with
  | ref a =>
    refine ⟨a, rfl, ?_⟩
    have h' : (match H a with | some (.tup xs) => some xs | _ => none) = some xs := h
    cases e : H a with
    | none => rw [e] at h'; cases h'
    | some o =>
      rw [e] at h'
      cases o <;> first | (cases h'; rfl) | cases h'
  | _ => cases h
/-! ### things as data: where they stand, and what they tell; no list or tuple of theirs stands at a place of C -/
theorem paired_imp {α β : Type} {F G : α → β → Prop} (h : ∀ a b, F a b → G a b) : ∀ {xs : List α} {ys : List β}, Paired F xs ys → Paired G xs ys
  | _, _, .nil => .nil
  | _, _, .cons r t => .cons (h _ _ r) (paired_imp h t)
theorem paired_app {α β : Type} {F : α → β → Prop} : ∀ {xs : List α} {ys : List β} {us : List α} {ws : List β}, Paired F xs ys → Paired F us ws → Paired F (xs ++ us) (ys ++ ws)
  | _, _, _, _, .nil, g => g
  | _, _, _, _, .cons r t, g => .cons r (paired_app t g)
theorem paired_take {α β : Type} {F : α → β → Prop} : ∀ {xs : List α} {ys : List β} (n : Nat), Paired F xs ys → Paired F (xs.take n) (ys.take n)
  | _, _, 0, _ => .nil
  | _, _, _ + 1, .nil => .nil
  | _, _, n + 1, .cons r t => .cons r (paired_take n t)
theorem paired_drop {α β : Type} {F : α → β → Prop} : ∀ {xs : List α} {ys : List β} (n : Nat), Paired F xs ys → Paired F (xs.drop n) (ys.drop n)
  | _, _, 0, h => h
  | _, _, _ + 1, .nil => .nil
  | _, _, n + 1, .cons r t => paired_drop n t
theorem paired_at {α β : Type} {F : α → β → Prop} : ∀ {xs : List α} {ys : List β} {i : Nat} {x : α}, Paired F xs ys → xs[i]? = some x → ∃ y, ys[i]? = some y ∧ F x y
  | _, _, 0, _, .cons r t, h => by
    cases h
    exact ⟨_, rfl, r⟩
  | _, _, i + 1, _, .cons r t, h => paired_at (i := i) t h
theorem paired_any {α β : Type} {F : α → β → Prop} : ∀ {xs : List α} {ys : List β} {x : α}, Paired F xs ys → x ∈ xs → ∃ y ∈ ys, F x y
  | _, _, _, .cons r t, h => by
    rcases List.mem_cons.mp h with rfl | h
    · exact ⟨_, List.mem_cons_self, r⟩
    · obtain ⟨y, hy, f⟩ := paired_any t h
      exact ⟨y, List.mem_cons_of_mem _ hy, f⟩
inductive Sc : V → PyData → Prop
  | non : Sc .non .none
  | bl (b : Bool) : Sc (.bl b) (.bool b)
  | int (i : Int) : Sc (.int i) (.int i)
  | str (s : Str) (h : s.length ≤ 1000) (hc : ∀ c ∈ s.cps.toList, c < 128) : Sc (.str s) (.str s)
def DA (C : Addr → Prop) (H : Hp) : Nat → V → PyData → Prop
  | 0, v, d => Sc v d
  | n + 1, v, d => Sc v d ∨ (∃ a xs ds, v = .ref a ∧ d = .tuple ds ∧ ¬ C a ∧ H a = some (.tup xs) ∧ xs.length ≤ 5000 ∧ Paired (DA C H n) xs ds) ∨ (∃ a xs ds, v = .ref a ∧ d = .list ds ∧ ¬ C a ∧ H a = some (.lst xs) ∧ xs.length ≤ 5000 ∧ Paired (DA C H n) xs ds)
section
variable {C C' : Addr → Prop} {H H' : Hp} {n m : Nat} {v : V} {d : PyData}
theorem Sc.da (h : Sc v d) : DA C H n v d := by
  cases n with
  | zero => exact h
  | succ n => exact .inl h
theorem DA.tup {a : Addr} {xs : List V} {ds : List PyData} (hc : ¬ C a) (e : H a = some (.tup xs)) (l : xs.length ≤ 5000) (p : Paired (DA C H n) xs ds) : DA C H (n + 1) (.ref a) (.tuple ds) := .inr (.inl ⟨a, xs, ds, rfl, rfl, hc, e, l, p⟩)
theorem DA.lst {a : Addr} {xs : List V} {ds : List PyData} (hc : ¬ C a) (e : H a = some (.lst xs)) (l : xs.length ≤ 5000) (p : Paired (DA C H n) xs ds) : DA C H (n + 1) (.ref a) (.list ds) := .inr (.inr ⟨a, xs, ds, rfl, rfl, hc, e, l, p⟩)
theorem DA.keep (k : ∀ b o, ¬ C b → H b = some o → H' b = some o) : ∀ {n : Nat} {v : V} {d : PyData}, DA C H n v d → DA C H' n v d
  | 0, _, _, h => h
  | n + 1, _, _, h => by
    rcases h with h | ⟨a, xs, ds, rfl, rfl, hc, e, l, p⟩ | ⟨a, xs, ds, rfl, rfl, hc, e, l, p⟩
    · exact .inl h
    · exact .tup hc (k _ _ hc e) l (paired_imp (fun _ _ => DA.keep k) p)
    · exact .lst hc (k _ _ hc e) l (paired_imp (fun _ _ => DA.keep k) p)
theorem DA.keep2 (k : ∀ b o, ¬ C b → (∃ xs, o = HO.tup xs ∨ o = HO.lst xs) → H b = some o → H' b = some o) : ∀ {n : Nat} {v : V} {d : PyData}, DA C H n v d → DA C H' n v d
  | 0, _, _, h => h
  | n + 1, _, _, h => by
    rcases h with h | ⟨a, xs, ds, rfl, rfl, hc, e, l, p⟩ | ⟨a, xs, ds, rfl, rfl, hc, e, l, p⟩
    · exact .inl h
    · exact .tup hc (k _ _ hc ⟨_, .inl rfl⟩ e) l (paired_imp (fun _ _ => DA.keep2 k) p)
    · exact .lst hc (k _ _ hc ⟨_, .inr rfl⟩ e) l (paired_imp (fun _ _ => DA.keep2 k) p)
theorem DA.same (h : DA C H n v d) (s : Same H H') : DA C H' n v d := h.keep fun _ _ _ e => s _ _ e
theorem DA.weak (k : ∀ b, C' b → C b) : ∀ {n : Nat} {v : V} {d : PyData}, DA C H n v d → DA C' H n v d
  | 0, _, _, h => h
  | n + 1, _, _, h => by
    rcases h with h | ⟨a, xs, ds, rfl, rfl, hc, e, l, p⟩ | ⟨a, xs, ds, rfl, rfl, hc, e, l, p⟩
    · exact .inl h
    · exact .tup (fun x => hc (k _ x)) e l (paired_imp (fun _ _ => DA.weak k) p)
    · exact .lst (fun x => hc (k _ x)) e l (paired_imp (fun _ _ => DA.weak k) p)
theorem DA.fresh {D : Addr} (hD : H D = none) : ∀ {n : Nat} {v : V} {d : PyData}, DA C H n v d → DA (fun x => C x ∨ x = D) H n v d
  | 0, _, _, h => h
  | n + 1, _, _, h => by
    have ne : ∀ {a : Addr} {o : HO}, ¬ C a → H a = some o → ¬ (C a ∨ a = D) := fun hc e x => x.elim hc fun e' => by rw [e', hD] at e; cases e
    rcases h with h | ⟨a, xs, ds, rfl, rfl, hc, e, l, p⟩ | ⟨a, xs, ds, rfl, rfl, hc, e, l, p⟩
    · exact .inl h
    · exact .tup (ne hc e) e l (paired_imp (fun _ _ => DA.fresh hD) p)
    · exact .lst (ne hc e) e l (paired_imp (fun _ _ => DA.fresh hD) p)
theorem DA.up1 : ∀ {n : Nat} {v : V} {d : PyData}, DA C H n v d → DA C H (n + 1) v d
  | 0, _, _, h => .inl h
  | n + 1, _, _, h => by
    rcases h with h | ⟨a, xs, ds, rfl, rfl, hc, e, l, p⟩ | ⟨a, xs, ds, rfl, rfl, hc, e, l, p⟩
    · exact .inl h
    · exact .tup hc e l (paired_imp (fun _ _ => DA.up1) p)
    · exact .lst hc e l (paired_imp (fun _ _ => DA.up1) p)
theorem DA.up (h : DA C H n v d) (l : n ≤ m) : DA C H m v d := by
  induction l with
  | refl => exact h
  | step _ ih => exact ih.up1
/-- a thing told as a tuple is one -/
theorem DA.asTup {ds : List PyData} (h : DA C H n v (.tuple ds)) : ∃ a xs k, n = k + 1 ∧ v = .ref a ∧ ¬ C a ∧ H a = some (.tup xs) ∧ xs.length ≤ 5000 ∧ Paired (DA C H k) xs ds := by
  cases n with
  | zero => cases h
  | succ n =>
    rcases h with h | ⟨a, xs, ds, rfl, e', hc, e, l, p⟩ | ⟨a, xs, ds, rfl, e', hc, e, l, p⟩
    · cases h
    · cases e'
      exact ⟨a, xs, n, rfl, rfl, hc, e, l, p⟩
    · cases e'
theorem DA.asLst {ds : List PyData} (h : DA C H n v (.list ds)) : ∃ a xs k, n = k + 1 ∧ v = .ref a ∧ ¬ C a ∧ H a = some (.lst xs) ∧ xs.length ≤ 5000 ∧ Paired (DA C H k) xs ds := by
  cases n with
  | zero => cases h
  | succ n =>
    rcases h with h | ⟨a, xs, ds, rfl, e', hc, e, l, p⟩ | ⟨a, xs, ds, rfl, e', hc, e, l, p⟩
    · cases h
    · cases e'
    · cases e'
      exact ⟨a, xs, n, rfl, rfl, hc, e, l, p⟩
theorem DA.asInt {i : Int} (h : DA C H n v (.int i)) : v = .int i := by
  cases n with
  | zero => cases h; rfl
  | succ n =>
    rcases h with h | ⟨a, xs, ds, rfl, e', _⟩ | ⟨a, xs, ds, rfl, e', _⟩
    · cases h; rfl
    · cases e'
    · cases e'
theorem DA.asStr {s : Str} (h : DA C H n v (.str s)) : v = .str s ∧ s.length ≤ 1000 ∧ ∀ c ∈ s.cps.toList, c < 128 := by
  cases n with
  | zero => cases h with | str _ h hc => exact ⟨rfl, h, hc⟩
  | succ n =>
    rcases h with h | ⟨a, xs, ds, rfl, e', _⟩ | ⟨a, xs, ds, rfl, e', _⟩
    · cases h with | str _ h hc => exact ⟨rfl, h, hc⟩
    · cases e'
    · cases e'
theorem dpall_of {K : PySem.W.Frag} {F : V → PyData → Prop} (k : ∀ v d, F v d → Dp K H v d) : ∀ {xs : List V} {ds : List PyData}, Paired F xs ds → DpAll K H xs ds
  | _, _, .nil => .nil
  | _, _, .cons r t => .cons (k _ _ r) (dpall_of k t)
theorem Sc.dp {K : PySem.W.Frag} (h : Sc v d) : Dp K H v d := by
  cases h with
  | non => exact .non
  | bl b => exact .bl b
  | int i => exact .int i
  | str s _ _ => exact .str s
theorem DA.dp {K : PySem.W.Frag} : ∀ {n : Nat} {v : V} {d : PyData}, DA C H n v d → Dp K H v d
  | 0, _, _, h => Sc.dp h
  | n + 1, _, _, h => by
    rcases h with h | ⟨a, xs, ds, rfl, rfl, hc, e, l, p⟩ | ⟨a, xs, ds, rfl, rfl, hc, e, l, p⟩
    · exact h.dp
    · exact .tup (.of e) (dpall_of (fun _ _ => DA.dp) p)
    · exact .lst (.of e) (dpall_of (fun _ _ => DA.dp) p)
theorem lays_of {F : V → PyData → Prop} {n : Nat} (k : ∀ v d, F v d → d.canLay0 = true ∧ d.depth ≤ n) : ∀ {xs : List V} {ds : List PyData}, Paired F xs ds → PyData.canLayAll0 ds = true ∧ PyData.depthAll ds ≤ n
  | _, _, .nil => ⟨rfl, Nat.zero_le _⟩
  | _, _, .cons r t => by
    obtain ⟨h1, h2⟩ := k _ _ r
    obtain ⟨h3, h4⟩ := lays_of k t
    exact ⟨by simp only [PyData.canLayAll0, h1, h3, Bool.and_self], by simp only [PyData.depthAll]; omega⟩
theorem Sc.lay (h : Sc v d) : d.canLay0 = true ∧ d.depth = 0 := by
  cases h with
  | non => exact ⟨rfl, rfl⟩
  | bl b => exact ⟨rfl, rfl⟩
  | int i => exact ⟨rfl, rfl⟩
  | str s _ hc => exact ⟨by simp only [PyData.canLay0, low_ok hc], rfl⟩
theorem DA.lay : ∀ {n : Nat} {v : V} {d : PyData}, DA C H n v d → d.canLay0 = true ∧ d.depth ≤ n
  | 0, _, _, h => ⟨(Sc.lay h).1, by rw [(Sc.lay h).2]; exact Nat.le_refl _⟩
  | n + 1, _, _, h => by
    rcases h with h | ⟨a, xs, ds, rfl, rfl, hc, e, l, p⟩ | ⟨a, xs, ds, rfl, rfl, hc, e, l, p⟩
    · exact ⟨h.lay.1, by rw [h.lay.2]; exact Nat.zero_le _⟩
    · obtain ⟨h1, h2⟩ := lays_of (fun _ _ => DA.lay) p
      exact ⟨by simp only [PyData.canLay0, h1], by simp only [PyData.depth]; omega⟩
    · obtain ⟨h1, h2⟩ := lays_of (fun _ _ => DA.lay) p
      exact ⟨by simp only [PyData.canLay0, h1], by simp only [PyData.depth]; omega⟩
theorem DA.shaped (h : DA C H n v d) (l : n ≤ 60) : SeqAt.shaped d = true := by
  unfold SeqAt.shaped
  rw [h.lay.1, Bool.true_and]
  exact decide_eq_true (by have := h.lay.2; omega)
theorem shaped_list {F : V → PyData → Prop} {xs : List V} {ds : List PyData} (p : Paired F xs ds) (k : ∀ v d, F v d → d.canLay0 = true ∧ d.depth ≤ 60) : SeqAt.shaped (.list ds) = true := by
  obtain ⟨h1, h2⟩ := lays_of k p
  unfold SeqAt.shaped
  simp only [PyData.canLay0, h1, Bool.true_and, PyData.depth]
  exact decide_eq_true (by omega)
theorem DA.refl (h : DA C H n v d) : PyData.eqv d d = true := PySem.SeqAt.eqv_refl _ h.lay.1
def isTup : PyData → Bool
  | .tuple _ => true
  | _ => false
def isLst : PyData → Bool
  | .list _ => true
  | _ => false
def isStrD : PyData → Bool
  | .str _ => true
  | _ => false
def isBoolD : PyData → Bool
  | .bool _ => true
  | _ => false
def isIntD : PyData → Bool
  | .int _ => true
  | .bool _ => true
  | _ => false
theorem DA.thg (h : DA C H n v d) : Thg H v := by
  cases n with
  | zero =>
    cases h with
    | non => exact .non
    | bl b => exact .bl b
    | int i => exact .int i
    | str s h hc => exact .str s h hc
  | succ n =>
    rcases h with h | ⟨a, xs, ds, rfl, rfl, hc, e, l, p⟩ | ⟨a, xs, ds, rfl, rfl, hc, e, l, p⟩
    · cases h with
      | non => exact .non
      | bl b => exact .bl b
      | int i => exact .int i
      | str s h hc => exact .str s h hc
    · exact .tup e
    · exact .lst e
theorem DA.ty {K : PySem.W.Frag} (h : DA C H n v d) : ∃ nm, TyX K H v (.type nm) ∧ kitB nm "tuple" = some (isTup d) ∧ kitB nm "list" = some (isLst d) ∧ kitB nm "str" = some (isStrD d) ∧ kitB nm "int" = some (isIntD d) ∧ kitB nm "bool" = some (isBoolD d) := by
  have sc : Sc v d → ∃ nm, TyX K H v (.type nm) ∧ kitB nm "tuple" = some (isTup d) ∧ kitB nm "list" = some (isLst d) ∧ kitB nm "str" = some (isStrD d) ∧ kitB nm "int" = some (isIntD d) ∧ kitB nm "bool" = some (isBoolD d) := fun h => by
    cases h with
    | non => exact ⟨"NoneType", .base .non, by decide +kernel, by decide +kernel, by decide +kernel, by decide +kernel, by decide +kernel⟩
    | bl b => exact ⟨"bool", .base (.bl _), by show _ = some false; decide +kernel, by show _ = some false; decide +kernel, by show _ = some false; decide +kernel, by show _ = some true; decide +kernel, by show _ = some true; decide +kernel⟩
    | int i => exact ⟨"int", .base (.int _), by show _ = some false; decide +kernel, by show _ = some false; decide +kernel, by show _ = some false; decide +kernel, by show _ = some true; decide +kernel, by show _ = some false; decide +kernel⟩
    | str s _ _ => exact ⟨"str", .base (.str _), by show _ = some false; decide +kernel, by show _ = some false; decide +kernel, by show _ = some true; decide +kernel, by show _ = some false; decide +kernel, by show _ = some false; decide +kernel⟩
  cases n with
  | zero => exact sc h
  | succ n =>
    rcases h with h | ⟨a, xs, ds, rfl, rfl, hc, e, l, p⟩ | ⟨a, xs, ds, rfl, rfl, hc, e, l, p⟩
    · exact sc h
    · exact ⟨"tuple", .base (.tup e), by show _ = some true; decide +kernel, by show _ = some false; decide +kernel, by show _ = some false; decide +kernel, by show _ = some false; decide +kernel, by show _ = some false; decide +kernel⟩
    · exact ⟨"list", .base (.lst e), by show _ = some false; decide +kernel, by show _ = some true; decide +kernel, by show _ = some false; decide +kernel, by show _ = some false; decide +kernel, by show _ = some false; decide +kernel⟩
/-- values, variables, terms, as data -/
def valD : PyData → Bool
  | .int i => decide (-999999999999999999999999999999 ≤ i ∧ i ≤ 999999999999999999999999999999)
  | .str s => wordB s
  | _ => false
def varD : PyData → Bool
  | .tuple [.int i] => decide (0 ≤ i ∧ i ≤ 999999999999999999999999999999)
  | _ => false
def termD (d : PyData) : Bool := valD d || varD d
theorem DA.val (h : DA C H n v d) : valV' v = valD d := by
  have sc : Sc v d → valV' v = valD d := fun h => by cases h <;> rfl
  cases n with
  | zero => exact sc h
  | succ n =>
    rcases h with h | ⟨a, xs, ds, rfl, rfl, _⟩ | ⟨a, xs, ds, rfl, rfl, _⟩
    · exact sc h
    · rfl
    · rfl
theorem varD_len : ∀ {ds : List PyData}, ds.length ≠ 1 → varD (.tuple ds) = false
  | [], _ => rfl
  | [_], h => absurd rfl h
  | x :: y :: r, _ => by cases x <;> rfl
/-- the variables of some terms -/
def varI : PyData → Option Int
  | .tuple [.int i] => some i
  | _ => none
theorem varI_mem {ds : List PyData} {i : Int} : i ∈ ds.filterMap varI ↔ .tuple [.int i] ∈ ds := by
  rw [List.mem_filterMap]
  constructor
  · rintro ⟨d, hd, e⟩
    unfold varI at e
    split at e
    · cases e
      exact hd
    · cases e
  · exact fun h => ⟨_, h, rfl⟩
theorem term_tup {ds : List PyData} (h : termD (.tuple ds) = true) : ∃ i, ds = [.int i] := by
  have h : varD (.tuple ds) = true := h
  unfold varD at h
  split at h
  · rename_i e
    cases e
    exact ⟨_, rfl⟩
  · cases h
def plainD (d : PyData) : Bool := isIntD d && !isBoolD d
theorem DA.plain (h : DA C H n v d) : plainV v = plainD d := by
  have sc : Sc v d → plainV v = plainD d := fun h => by cases h <;> rfl
  cases n with
  | zero => exact sc h
  | succ n =>
    rcases h with h | ⟨a, xs, ds, rfl, rfl, _⟩ | ⟨a, xs, ds, rfl, rfl, _⟩
    · exact sc h
    · rfl
    · rfl
end
/-! ### what a part lacks -/
def atomD : PyData → Bool
  | .tuple [_, .tuple _] => true
  | _ => false
theorem atomD_len : ∀ {ds : List PyData}, ds.length ≠ 2 → atomD (.tuple ds) = false
  | [], _ => rfl
  | [_], _ => rfl
  | [_, _], h => absurd rfl h
  | x :: y :: z :: r, _ => by cases y <;> rfl
def formD : PyData → Bool
  | .tuple [.tuple _, .list as] => decide (as.length ≤ 5) && as.all atomD
  | _ => false
theorem formD_len : ∀ {ds : List PyData}, ds.length ≠ 2 → formD (.tuple ds) = false
  | [], _ => rfl
  | [x], _ => by cases x <;> rfl
  | [_, _], h => absurd rfl h
  | x :: y :: z :: r, _ => by cases x <;> first | rfl | (cases y <;> rfl)
def headOf : PyData → List PyData
  | .tuple [.tuple hs, _] => hs
  | _ => []
def atomsOf : PyData → List PyData
  | .tuple [_, .list as] => as
  | _ => []
def atName : PyData → PyData
  | .tuple [x, _] => x
  | _ => .none
def atTerms : PyData → List PyData
  | .tuple [_, .tuple ts] => ts
  | _ => []
def nameD (ts : List (Str × Int)) : PyData → Bool
  | .str s => (valV (tabK ts) (Sum.inr s)).isSome
  | _ => false
def wdD (ts : List (Str × Int)) : PyData → Int
  | .str s => widthAt ts s
  | _ => 0
def termsD (m : Int) (ds : List PyData) : Bool := decide ((ds.length : Int) = m) && ds.all termD
def standD (d : PyData) : List PyData := (atomsOf d).flatMap atTerms
def safeD (d : PyData) : Bool := (headOf d).all fun x => !isTup x || (standD d).any fun z => PyData.eqv z x
def faultD (ts : List (Str × Int)) (w : Int) (d : PyData) : Str :=
  if formD d = false then "form" else if termsD w (headOf d) = false then "head" else if ((atomsOf d).all fun x => nameD ts (atName x)) = false then "table" else
  if ((atomsOf d).all fun x => termsD (wdD ts (atName x)) (atTerms x)) = false then "terms" else if safeD d = false then "unsafe" else ""
def firstD (ts : List (Str × Int)) (w : Int) : List PyData → Nat → Option (Str × Nat)
  | [], _ => none
  | d :: r, i => if faultD ts w d = "" then firstD ts w r (i + 1) else some (faultD ts w d, i)
def widthD : PyData → Option Int
  | .int i => if 0 ≤ i ∧ i ≤ 12 then some i else none
  | _ => none
def dueD (ts : List (Str × Int)) (w p : PyData) : Option (Str × Int) := match widthD w with
  | none => some ("width", -1)
  | some wi => match p with
    | .list ds => if ds.length ≤ 4000 then (firstD ts wi ds 0).map fun z => (z.1, (z.2 : Int)) else some ("parts", -1)
    | _ => some ("parts", -1)
theorem ifT {A B : Prop} (h : A) : if true = true then A else B := by rw [if_pos rfl]; exact h
theorem ifF {A B : Prop} (h : B) : if false = true then A else B := by rw [if_neg (by decide)]; exact h
/-! ### a cell of draws: a list of two ints that every draw changes -/
def Cell (H : Hp) (p : Addr) : Prop := ∃ n c : Int, H p = some (.lst [.int n, .int c])
def Chs (p : Addr) (H H' : Hp) : Prop := Cell H' p ∧ Oth p H H'
theorem Chs.refl {p : Addr} {H : Hp} (h : Cell H p) : Chs p H H := ⟨h, Oth.refl p H⟩
theorem Chs.trans {p : Addr} {H H1 H2 : Hp} (x : Chs p H H1) (y : Chs p H1 H2) : Chs p H H2 := ⟨y.1, fun b o n e => y.2 b o n (x.2 b o n e)⟩
theorem Cell.same {p : Addr} {H H' : Hp} (h : Cell H p) (s : Same H H') : Cell H' p := by
  obtain ⟨n, c, e⟩ := h
  exact ⟨n, c, s _ _ e⟩
theorem Cell.ne {p b : Addr} {H : Hp} (h : Cell H p) (e : H b = none) : b ≠ p := by
  obtain ⟨n, c, e'⟩ := h
  exact (ne_of_none e' e).symm
theorem Chs.sm {p : Addr} {H H1 H2 : Hp} (x : Chs p H H1) (s : Same H1 H2) : Chs p H H2 := ⟨x.1.same s, fun b o n e => s _ _ (x.2 b o n e)⟩
theorem Chs.mut {p b : Addr} {o : HO} {H H1 : Hp} (x : Chs p H H1) (h : H b = none) (n : b ≠ p) : Chs p H (upd H1 b o) := by
  obtain ⟨⟨i, j, e⟩, k⟩ := x
  exact ⟨⟨i, j, by rw [upd_ne n.symm]; exact e⟩, fun c u nc q => by
    rw [upd_ne (ne_of_none q h)]
    exact k c u nc q⟩
theorem Chs.free {p b : Addr} {H H1 : Hp} (x : Chs p H H1) (h0 : Cell H p) (h : H1 b = none) : H b = none := by
  cases e : H b with
  | none => rfl
  | some o =>
    by_cases n : b = p
    · subst n
      obtain ⟨⟨i, j, e'⟩, _⟩ := x
      rw [e'] at h
      cases h
    · rw [x.2 b o n e] at h
      cases h
theorem Chs.at {p b : Addr} {H H' : Hp} {o : HO} (c : Chs p H H') (n : b ≠ p) (e : H b = some o) : H' b = some o := c.2 b o n e
theorem cell_ne {p b : Addr} {H : Hp} {o : HO} (h : Cell H p) (e : H b = some o) (x : ∀ xs, o ≠ .lst xs) : b ≠ p := by
  obtain ⟨n, c, e'⟩ := h
  exact ne_of e e' (x _)
theorem DA.chs {p : Addr} {C : Addr → Prop} {H H' : Hp} {n : Nat} {v : V} {d : PyData} (h : DA C H n v d) (c : Chs p H H') (k : C p) : DA C H' n v d := h.keep fun b o nb e => c.2 b o (fun e' => nb (e' ▸ k)) e
/-- all places of C are taken -/
def Occ (C : Addr → Prop) (H : Hp) : Prop := ∀ a, C a → ∃ o, H a = some o
theorem Occ.same {C : Addr → Prop} {H H' : Hp} (h : Occ C H) (s : Same H H') : Occ C H' := fun a ha => let ⟨o, e⟩ := h a ha; ⟨o, s _ _ e⟩
theorem Occ.chs {C : Addr → Prop} {H H' : Hp} {p : Addr} (h : Occ C H) (c : Chs p H H') : Occ C H' := fun a ha => by
  by_cases e : a = p
  · subst e
    obtain ⟨⟨i, j, e⟩, _⟩ := c
    exact ⟨_, e⟩
  · obtain ⟨o, eo⟩ := h a ha
    exact ⟨o, c.2 a o e eo⟩
theorem Occ.new {C : Addr → Prop} {H : Hp} {b : Addr} (h : Occ C H) (e : H b = none) : ¬ C b := fun hc => by
  obtain ⟨o, eo⟩ := h b hc
  rw [e] at eo
  cases eo
theorem str_cps {s t : Str} (h : s.cps.toList = t.cps.toList) : s = t := by
  cases s
  cases t
  exact congrArg Str.mk (Array.toList_inj.mp h)
theorem join_sgn : ∀ cs : List Nat, Str.join "" (cs.map sgn) = ⟨cs.toArray⟩
  | [] => rfl
  | [c] => rfl
  | c :: e :: r => by
    have ih := join_sgn (e :: r)
    show sgn c ++ "" ++ Str.join "" ((e :: r).map sgn) = _
    rw [ih]
    refine str_cps ?_
    rw [cps_app, cps_app]
    show ([c] ++ ("" : Str).cps.toList) ++ (e :: r).toArray.toList = (c :: e :: r).toArray.toList
    rw [show ("" : Str).cps.toList = [] by decide +kernel]
    simp
section
variable {P : Program} {w : World} {K : PySem.W.Frag} {mg : Str → Option Value} {base : Heap} {a : Nat → Addr} {d : Nat → FuncData}
def spState (K : PySem.W.Frag) : Sp := fun vs H Q _ => ∃ (p : Addr) (ns : List Int) (k : Int), vs = [.ref p, .int k] ∧ SqL K H p (ns.map V.int) ∧ ns.length ≤ 63 ∧ 0 ≤ k ∧ k ≤ 1000 ∧ ∀ q H', H q = none → Cell H' q → Same H H' → Q (.ref q) H'
theorem ok_state (T : Txt K mg a d) : FnOk P w K mg base CX0 1 (a 58) (d 58) ["_law_script", "_law_k"] (spState K) := by
  refine T.F58.ok sc__law_state (fun vs H Q E h => ?_) (fun cdv A outer s H vs Q E hr h => ?_)
  · obtain ⟨p, ns, k, rfl, _⟩ := h
    rfl
  · obtain ⟨p, ns, k, rfl, hS, hl, k0, k1, q⟩ := h
    refine ⟨_, (pss_one (ps_ret (pe_lst (pa_cons (pe_ifExp (pt_cmpR op_lt (pv 1) (pe_callB (id := "len")  call_len_seq (by rfl) T.z_len (by decide +kernel) (pa_cons (pv 0) pa_nil)) (nomark _)) (pe_ix ix_list (pv 0) (pv 1) (fun _ _ => rfl)) pe_int) (pa_cons (pe_op op_mul pe_int (pv 1)) pa_nil))))), ?_⟩
    have fin : ∀ z : Int, ∀ r, H r = none → Q (.ref r) (upd H r (.lst [.int z, .int (101 * k)])) := fun z r hr => q r _ hr ⟨_, _, upd_same⟩ (same_upd hr)
    refine ⟨_, rfl, _, rfl, _, _, rfl, .inl hS, _, _, rfl, rfl, _, rfl, ite_d (fun h1 => ?_) (fun h1 => ?_)⟩
    · have h1 : k < (ns.map V.int).length := h1
      rw [List.length_map] at h1
      have h2 : k.toNat < ns.length := by omega
      exact ⟨_, rfl, _, rfl, _, _, _, _, rfl, rfl, hS, at_g (j := k.toNat) (by omega) (by rw [List.getElem?_map, List.getElem?_eq_getElem h2]; rfl), _, rfl, _, _, rfl, rfl, .inl ⟨by omega, by omega⟩, by show 2 ≤ sizeLine; decide, fun r hr => fin _ r hr⟩
    · exact ⟨_, rfl, _, _, rfl, rfl, .inl ⟨by omega, by omega⟩, by show 2 ≤ sizeLine; decide, fun r hr => fin _ r hr⟩
def spPick2 : Sp := fun vs H Q _ => ∃ (p : Addr) (m : Int), vs = [.ref p, .int m] ∧ Cell H p ∧ 0 < m ∧ m.natAbs < 2 ^ 200 ∧ ∀ (r : Int) (H' : Hp), 0 ≤ r → r < m → Chs p H H' → Q (.int r) H'
theorem ok_pick2 (T : Txt K mg a d) : FnOk P w K mg base CX0 1 (a 59) (d 59) ["_law_state_here", "_law_many_here"] spPick2 := by
  refine T.F59.ok sc__law_pick (fun vs H Q E h => ?_) (fun cdv A outer s H vs Q E hr h => ?_)
  · obtain ⟨p, m, rfl, _⟩ := h
    rfl
  · obtain ⟨p, m, rfl, ⟨i, j, e⟩, hm, hm2, q⟩ := h
    refine ⟨_, (pss_cons (ps_set (i := 2) sc__law_pick.nd rfl (.inl rfl) (pe_ix ix_list (pv 0) pe_int (fun _ _ => rfl)))
  (pss_cons (ps_if (pt_cmpR op_ge (pv 2) (pe_op op_pow pe_int pe_int) (nomark _))
    (pss_cons (ps_asg (pe_op op_fdivW (pv 2) (pv 1)) (pg_sub (pv 0) pe_int set_list))
      (pss_one (ps_ret (pe_op op_mod (pe_callTy (T := "int")  call_int1 (by rfl) T.z_int (by decide +kernel) (pa_cons (pv 2) pa_nil)) (pv 1)))))
    pss_nil)
  (pss_cons (ps_asg (pe_op op_add (pe_ix ix_list (pv 0) pe_int (fun _ _ => rfl)) pe_int) (pg_sub (pv 0) pe_int set_list))
  (pss_cons (ps_set (i := 3) sc__law_pick.nd rfl (.inl rfl) (pe_op op_mod (pe_op op_add (pe_op op_add (pe_op op_mul (pe_op op_mod (pe_callTy (T := "int")  call_int1 (by rfl) T.z_int (by decide +kernel) (pa_cons (pv 2) pa_nil)) pe_int) pe_int) (pe_op op_mul (pe_ix ix_list (pv 0) pe_int (fun _ _ => rfl)) pe_int)) pe_int) pe_int))
  (pss_cons (ps_set (i := 3) sc__law_pick.nd rfl (.inl rfl) (pe_op op_mod (pe_op op_mul (pv 3) (pe_op op_add (pe_op op_fdivW (pv 3) pe_int) pe_int)) pe_int))
  (pss_cons (ps_set (i := 3) sc__law_pick.nd rfl (.inl rfl) (pe_op op_mod (pe_op op_mul (pv 3) (pe_op op_add (pe_op op_fdivW (pv 3) pe_int) pe_int)) pe_int))
  (pss_one (ps_ret (pe_op op_mod (pv 3) (pv 1)))))))))), ?_⟩
    have e18 : (10 : Int) ^ (18 : Int).toNat = 1000000000000000000 := by decide +kernel
    have o0 := Oth.refl p H
    refine ⟨_, rfl, _, _, _, _, rfl, rfl, .of e, atI_nat (j := 0) rfl, ?_⟩
    refine ⟨_, rfl, _, _, rfl, rfl, ⟨by decide, by decide, by decide⟩, _, _, rfl, rfl, _, rfl, ite_d (fun h1 => ?_) (fun h1 => ?_)⟩
    · refine ⟨_, rfl, _, rfl, _, _, rfl, rfl, wide_div hm hm2 (by decide) (by decide), _, rfl, _, _, _, 0, rfl, rfl, e, ixN_at (j := 0) (by show 0 < 2; decide), ?_⟩
      refine ⟨_, rfl, .inl ⟨_, rfl, _, rfl, _, _, rfl, rfl, hm, ?_⟩⟩
      exact q _ _ (Int.emod_nonneg _ (by omega)) (Int.emod_lt_of_pos _ hm) ⟨⟨_, _, upd_same⟩, o0.upd⟩
    · refine ⟨_, rfl, _, _, _, _, rfl, rfl, .of e, atI_nat (j := 1) rfl, _, _, rfl, rfl, _, rfl, _, _, _, 1, rfl, rfl, e, ixN_at (j := 1) (by show 1 < 2; decide), ?_⟩
      generalize hH : upd H p (HO.lst (List.set _ _ _)) = H1
      have e1 : H1 p = some (.lst [.int i, .int (j + 1)]) := by rw [← hH]; exact upd_same
      have o1 : Oth p H H1 := by rw [← hH]; exact o0.upd
      have fin : ∀ z : Int, Q (.int (z % m)) H1 := fun z => q _ _ (Int.emod_nonneg _ (by omega)) (Int.emod_lt_of_pos _ hm) ⟨⟨_, _, e1⟩, o1⟩
      clear hH
      refine ⟨_, rfl, .inl ⟨_, rfl, _, _, rfl, rfl, (by show (0 : Int) < _; decide), _, _, rfl, rfl, .inr ⟨by decide, by decide⟩, _, rfl, _, _, _, _, rfl, rfl, .of e1, atI_nat (j := 1) rfl, _, _, rfl, rfl, .inr ⟨by decide, by decide⟩, _, _, rfl, rfl, _, _, rfl, rfl, _, _, rfl, rfl, (by show (0 : Int) < _; decide), ?_⟩⟩
      generalize hz : ((i % 2147483647 * 48271 + (j + 1) * 69623 + 11) % 2147483629 : Int) = z
      have z1 : 0 ≤ z ∧ z < 2147483629 := by rw [← hz]; exact ⟨Int.emod_nonneg _ (by decide), Int.emod_lt_of_pos _ (by decide)⟩
      clear hz
      have wd : ∀ {x y : Int}, 0 < y → y.natAbs < 2 ^ 64 → CDivW x y := fun h1 h2 => wide_div h1 h2 (by decide) (by decide)
      refine ⟨_, rfl, _, rfl, _, _, rfl, rfl, wd (by decide) (by decide), _, _, rfl, rfl, _, _, rfl, rfl, .inl ⟨by omega, by omega⟩, _, _, rfl, rfl, (by show (0 : Int) < _; decide), ?_⟩
      generalize hy : (z * (z / 1009 + 69621) % 2147483647 : Int) = y
      have y1 : 0 ≤ y ∧ y < 2147483647 := by rw [← hy]; exact ⟨Int.emod_nonneg _ (by decide), Int.emod_lt_of_pos _ (by decide)⟩
      clear hy
      refine ⟨_, rfl, _, rfl, _, _, rfl, rfl, wd (by decide) (by decide), _, _, rfl, rfl, _, _, rfl, rfl, .inl ⟨by omega, by omega⟩, _, _, rfl, rfl, (by show (0 : Int) < _; decide), ?_⟩
      exact ⟨_, rfl, _, rfl, _, _, rfl, rfl, hm, fin _⟩
def spWord2 : Sp := fun vs H Q _ => ∃ (p : Addr), vs = [.ref p] ∧ Cell H p ∧ ∀ (s : Str) (H' : Hp), Wd s → Chs p H H' → Q (.str s) H'
theorem ok_word2 (T : Txt K mg a d) : FnOk P w K mg base CX0 2 (a 60) (d 60) ["_law_state_here"] spWord2 := by
  have G59 : FnOk P w K mg base CX0 1 (a 59) (d 59) ["_law_state_here", "_law_many_here"] spPick2 := ok_pick2 T
  refine T.F60.ok sc__law_word (fun vs H Q E h => ?_) (fun cdv A outer s H vs Q E hr h => ?_)
  · obtain ⟨p, rfl, _⟩ := h
    rfl
  · obtain ⟨p, rfl, hP, q⟩ := h
    refine ⟨_, (pss_cons (ps_set (i := 1) sc__law_word.nd rfl (.inr rfl) pe_str)
  (pss_one (ps_ret (pe_join pe_str (pe_lc (own := [("_law_k", 2)]) rfl sc__law_word.nd (pi_range1 (by rfl) T.z_range (pa_cons (pe_op op_add pe_int (pe_call G59 (hr.mono (by decide)) (by rfl) T.g59 T.F59.kp T.b59 .nil pass0 (pa_cons (pv 0) (pa_cons pe_int pa_nil)))) pa_nil)) (blkOk_by (N := ["_law_state_here", "_law_letters", "_law_k"]) (sc := defScope s__law_word) (by decide +kernel)) (fun _ _ _ _ _ => pg_name (i := 2) sc__law_word.nd rfl (.inl rfl)) (fun _ _ _ _ _ => pts_nil) (fun _ _ _ _ _ => (pe_ix ix_str (pv 1) (pe_call G59 (hr.mono (by decide)) (by rfl) T.g59 T.F59.kp T.b59 .nil pass0 (pa_cons (pv 0) (pa_cons pe_int pa_nil))) (fun _ _ => rfl)))))))), ?_⟩
    refine ⟨⟨_, rfl⟩, _, rfl, p, 8, rfl, hP, by decide, by decide, fun m H1 m0 m1 C1 => ⟨_, _, rfl, rfl, _, rfl, by omega, by omega, fun D hD => ?_⟩⟩
    have nD : D ≠ p := C1.1.ne hD
    refine lc_range (lo := 0) (n := (1 + m).toNat) (fun i H' => ∃ cs : List Nat, H' D = some (.lst ((cs.map sgn).map V.str)) ∧ cs.length = i ∧ (∀ c ∈ cs, 97 ≤ c ∧ c ≤ 122) ∧ Chs p H H') ⟨[], upd_same, rfl, (fun c h => by cases h), C1.mut (C1.free hP hD) nD⟩ (fun i H' hi hp => ?_) (fun H' hp => ?_)
    · obtain ⟨cs, c1, c2, c3, C2⟩ := hp
      refine ⟨rfl, ?_⟩
      have hi8 : i < 8 := by omega
      refine ⟨_, rfl, _, rfl, p, 26, rfl, C2.1, by decide, by decide, fun r H'' r0 r1 C3 => ⟨_, r, 97 + r.toNat, rfl, rfl, by decide +kernel, at_g (show r = ((r.toNat : Nat) : Int) by omega) (letter_at r.toNat (by omega)), _, C3.at nD c1, ?_, cs ++ [97 + r.toNat], ?_, ?_, fun c hc => ?_, (C2.trans C3).mut (C1.free hP hD) nD⟩⟩
      · rw [List.length_map, List.length_map, c2]
        exact small1000 (by omega)
      · rw [List.map_append, List.map_append]
        exact upd_same
      · rw [List.length_append, c2]
        rfl
      · rcases List.mem_append.mp hc with h | h
        · exact c3 c h
        · rw [List.mem_singleton.mp h]
          omega
    · obtain ⟨cs, c1, c2, c3, C2⟩ := hp
      have l1 : ((cs.map sgn).map (·.length)).sum = cs.length := by
        rw [List.map_map]
        clear c1 c2 c3
        induction cs with
        | nil => rfl
        | cons c cs ih => rw [List.map_cons, List.sum_cons, ih, List.length_cons]; show 1 + cs.length = _; omega
      refine ⟨_, D, cs.map sgn, rfl, rfl, .inl (.of c1), ?_, q _ H' ?_ C2⟩
      · rw [l1, List.length_map, c2]
        show _ + _ * 0 ≤ 16777216
        omega
      · rw [TL.join_eq, join_sgn]
        exact ⟨by show 1 ≤ (cs.toArray).size; rw [List.size_toArray]; omega, by show (cs.toArray).size ≤ 8; rw [List.size_toArray]; omega, fun c hc => c3 c (by simpa using hc)⟩
end
section
variable {P : Program} {w : World} {K : PySem.W.Frag} {mg : Str → Option Value} {base : Heap} {a : Nat → Addr} {d : Nat → FuncData}
theorem wd_val {s : Str} (h : Wd s) : valD (.str s) = true := wd_b h
theorem wd_sc {s : Str} (h : Wd s) : Sc (.str s) (.str s) := .str s (by have := h.2.1; omega) fun c hc => by have := (h.2.2 c hc).2; omega
def spValue2 : Sp := fun vs H Q _ => ∃ (p : Addr), vs = [.ref p] ∧ Cell H p ∧ ∀ (v : V) (d : PyData) (H' : Hp), Sc v d → valD d = true → Chs p H H' → Q v H'
theorem ok_value2 (T : Txt K mg a d) : FnOk P w K mg base CX0 3 (a 61) (d 61) ["_law_state_here"] spValue2 := by
  have G59 : FnOk P w K mg base CX0 1 (a 59) (d 59) ["_law_state_here", "_law_many_here"] spPick2 := ok_pick2 T
  have G60 : FnOk P w K mg base CX0 2 (a 60) (d 60) ["_law_state_here"] spWord2 := ok_word2 T
  refine T.F61.ok sc__law_value (fun vs H Q E h => ?_) (fun cdv A outer s H vs Q E hr h => ?_)
  · obtain ⟨p, rfl, _⟩ := h
    rfl
  · obtain ⟨p, rfl, hP, q⟩ := h
    refine ⟨_, (pss_cons (ps_set (i := 1) sc__law_value.nd rfl (.inl rfl) (pe_call G59 (hr.mono (by decide)) (by rfl) T.g59 T.F59.kp T.b59 .nil pass0 (pa_cons (pv 0) (pa_cons pe_int pa_nil))))
  (pss_cons (ps_if (pt_cmpR op_eq (pv 1) pe_int (nomark _))
    (pss_one (ps_ret (pe_call G60 (hr.mono (by decide)) (by rfl) T.g60 T.F60.kp T.b60 .nil pass0 (pa_cons (pv 0) pa_nil))))
    pss_nil)
  (pss_cons (ps_if (pt_cmpR op_eq (pv 1) pe_int (nomark _))
    (pss_one (ps_ret (pe_call G59 (hr.mono (by decide)) (by rfl) T.g59 T.F59.kp T.b59 .nil pass0 (pa_cons (pv 0) (pa_cons pe_int pa_nil)))))
    pss_nil)
  (pss_cons (ps_set (i := 2) sc__law_value.nd rfl (.inl rfl) (pe_op op_sub (pe_op op_add (pe_op op_mul (pe_call G59 (hr.mono (by decide)) (by rfl) T.g59 T.F59.kp T.b59 .nil pass0 (pa_cons (pv 0) (pa_cons (pe_op op_pow pe_int pe_int) pa_nil))) (pe_op op_pow pe_int pe_int)) (pe_op op_pow pe_int pe_int)) pe_int))
  (pss_one (ps_ret (pe_ifExp (pt_cmpR op_eq (pv 1) pe_int (nomark _)) (pv 2) (pe_un un_neg (pv 2))))))))), ?_⟩
    refine ⟨_, rfl, p, 4, rfl, hP, by decide, by decide, fun k H1 k0 k1 C1 => ?_⟩
    refine ⟨_, rfl, rfl, _, rfl, ite_eqI (fun _ => ?_) (fun _ => ?_)⟩
    · exact ⟨_, rfl, p, rfl, C1.1, fun s H2 hs C2 => q _ _ _ (wd_sc hs) (wd_val hs) (C1.trans C2)⟩
    · refine ⟨_, rfl, rfl, _, rfl, ite_eqI (fun _ => ?_) (fun _ => ?_)⟩
      · exact ⟨_, rfl, p, 3, rfl, C1.1, by decide, by decide, fun r H2 r0 r1 C2 => q _ _ _ (.int r) (decide_eq_true (by omega)) (C1.trans C2)⟩
      · have e9 : (10 : Int) ^ (9 : Int).toNat = 1000000000 := by decide +kernel
        have e21 : (10 : Int) ^ (21 : Int).toNat = 1000000000000000000000 := by decide +kernel
        refine ⟨_, rfl, _, _, rfl, rfl, ⟨by decide, by decide, by decide⟩, p, 1000000000, rfl, C1.1, by decide, by decide, fun r H2 r0 r1 C2 => ?_⟩
        refine ⟨_, _, rfl, rfl, ⟨by decide, by decide, by decide⟩, _, _, rfl, rfl, .inl ⟨by omega, by omega⟩, _, _, rfl, rfl, ⟨by decide, by decide, by decide⟩, _, _, rfl, rfl, _, _, rfl, rfl, ?_⟩
        rw [e21]
        refine ⟨_, rfl, rfl, _, rfl, ite_eqI (fun _ => ?_) (fun _ => ?_)⟩
        · exact ⟨_, rfl, q _ _ _ (.int _) (decide_eq_true (by omega)) (C1.trans C2)⟩
        · exact ⟨_, rfl, _, rfl, q _ _ _ (.int _) (decide_eq_true (by omega)) (C1.trans C2)⟩
def spTables2 : Sp := fun vs H Q _ => ∃ (p : Addr), vs = [.ref p] ∧ Cell H p ∧ ∀ (t : Addr) (ts : List (Str × Int)) (H' : Hp), H t = none → H' t = some (.dK (tabK ts)) → Tabs ts ts.length 3 → 1 ≤ ts.length → ts.length ≤ 3 → Chs p H H' → Q (.ref t) H'
theorem nodup3 : (["q", "r", "s"] : List Str).Nodup := by decide +kernel
theorem wd3 : ∀ s ∈ (["q", "r", "s"] : List Str), Wd s := by
  have h : ((["q", "r", "s"] : List Str).all fun s => decide (1 ≤ s.length) && decide (s.length ≤ 8) && s.cps.toList.all fun c => decide (97 ≤ c) && decide (c ≤ 122)) = true := by decide +kernel
  intro s hs
  have h1 := List.all_eq_true.mp h s hs
  simp only [Bool.and_eq_true, List.all_eq_true, decide_eq_true_eq] at h1
  exact ⟨h1.1.1, h1.1.2, fun c hc => h1.2 c hc⟩
theorem val_isn {ts : List (Str × Int)} {n : Str} (h : (valV (tabK ts) (Sum.inr n)).isSome = false) : n ∉ ts.map (·.1) := fun hm => by
  obtain ⟨b, hb, e⟩ := List.mem_map.mp hm
  have : ∀ {kvs : List (Key × V)} {k : Key}, k ∈ kvs.map (·.1) → (valV kvs k).isSome = true := by
    intro kvs
    induction kvs with
    | nil => intro k h; cases h
    | cons p r ih =>
      intro k h
      by_cases e : p.1 = k
      · unfold valV
        simp [List.find?, e]
      · rw [valV_neg e]
        rw [List.map_cons] at h
        rcases List.mem_cons.mp h with h | h
        · exact absurd h.symm e
        · exact ih h
  rw [this (by rw [keys_tab]; exact List.mem_map.mpr ⟨n, hm, rfl⟩)] at h
  cases h
theorem val_isy {ts : List (Str × Int)} {n : Str} (h : (valV (tabK ts) (Sum.inr n)).isSome = true) : n ∈ ts.map (·.1) := by
  by_cases hm : n ∈ ts.map (·.1)
  · exact hm
  · rw [valV_no (by rw [keys_tab]; exact inr_no hm)] at h
    cases h
theorem ok_tables2 (T : Txt K mg a d) : FnOk P w K mg base CX0 3 (a 62) (d 62) ["_law_state_here"] spTables2 := by
  have G59 : FnOk P w K mg base CX0 1 (a 59) (d 59) ["_law_state_here", "_law_many_here"] spPick2 := ok_pick2 T
  have G60 : FnOk P w K mg base CX0 2 (a 60) (d 60) ["_law_state_here"] spWord2 := ok_word2 T
  refine T.F62.ok sc__law_tables (fun vs H Q E h => ?_) (fun cdv A outer s H vs Q E hr h => ?_)
  · obtain ⟨p, rfl, _⟩ := h
    rfl
  · obtain ⟨p, rfl, hP, q⟩ := h
    have hu := hu_of hr
    refine ⟨_, (pss_cons (ps_set (i := 1) sc__law_tables.nd rfl (.inr rfl) pe_dnewK)
  (pss_cons (ps_for PassesOwn.never rfl (pi_range1 (by rfl) T.z_range (pa_cons (pe_op op_add pe_int (pe_call G59 (hr.mono (by decide)) (by rfl) T.g59 T.F59.kp T.b59 .nil pass0 (pa_cons (pv 0) (pa_cons pe_int pa_nil)))) pa_nil)) (pg_name (i := 2) sc__law_tables.nd rfl (.inl rfl))
    (pss_cons (ps_set (i := 3) sc__law_tables.nd rfl (.inl rfl) (pe_call G60 (hr.mono (by decide)) (by rfl) T.g60 T.F60.kp T.b60 .nil pass0 (pa_cons (pv 0) pa_nil)))
      (Evl.pss_cut (ps_if (pt_cmp (pc_din (hu_of hr) (pv 3) (pv 1)))
        (pss_one (ps_set (i := 3) sc__law_tables.nd rfl (.inl rfl) (pe_ix ix_list (pe_lc (own := [("_law_one", 4)]) rfl sc__law_tables.nd (pi_list (pe_lst (pa_cons pe_str (pa_cons pe_str (pa_cons pe_str pa_nil))))) (blkOk_by (N := ["_law_state_here", "_law_tables_here", "_law_k", "_law_name", "_law_one"]) (sc := defScope s__law_tables) (by decide +kernel)) (fun _ _ _ _ _ => pg_name (i := 4) sc__law_tables.nd rfl (.inl rfl)) (fun _ _ _ _ _ => (pts_one (pt_cmp (pc_dnotin (hu_of hr) (pv 4) (pv 1))))) (fun _ _ _ _ _ => (pv 4))) pe_int (fun _ _ => rfl))))
        pss_nil)
      (pss_one (ps_dput (hu_of hr) (pv 1) (pv 3) (pe_op op_add pe_int (pe_call G59 (hr.mono (by decide)) (by rfl) T.g59 T.F59.kp T.b59 .nil pass0 (pa_cons (pv 0) (pa_cons pe_int pa_nil)))) rfl)))))
  (pss_one (ps_ret (pv 1))))), ?_⟩
    intro t ht
    have nt : t ≠ p := hP.ne ht
    have C1 : Chs p H (upd H t (.dK [])) := (Chs.refl hP).mut ht nt
    refine ⟨_, rfl, p, 3, rfl, C1.1, by decide, by decide, fun m H2 m0 m1 C2 => ⟨_, _, rfl, rfl, _, rfl, by omega, by omega, ?_⟩⟩
    refine for_range (lo := 0) (n := (1 + m).toNat) (fun i σ H' => ∃ (ts : List (Str × Int)) (y2 y3 : Option V), σ = [some (.ref p), some (.ref t), y2, y3, none] ∧ H' t = some (.dK (tabK ts)) ∧ Tabs ts i 3 ∧ Chs p H H')
      ⟨[], none, none, rfl, C2.at nt upd_same, ⟨⟨rfl, List.nodup_nil, fun s h => by cases h⟩, fun b h => by cases h⟩, C1.trans C2⟩ (fun i σ H' hi hp => ?_) (fun σ H' hp => ?_)
    · obtain ⟨ts, y2, y3, rfl, ht', hT, C3⟩ := hp
      have hi3 : i < 3 := by omega
      refine ⟨_, rfl, p, rfl, C3.1, fun s H3 hs C4 => ?_⟩
      have ht3 := C4.at nt ht'
      have C34 := C3.trans C4
      refine ⟨fun σ H' => ∃ n : Str, σ = [some (.ref p), some (.ref t), some (.int (0 + (i : Int))), some (.str n), none] ∧ Wd n ∧ n ∉ ts.map (·.1) ∧ H' t = some (.dK (tabK ts)) ∧ Chs p H H', ?_, ?_⟩
      · refine ⟨_, rfl, _, rfl, t, _, rfl, DGet.k (k := Sum.inr s) ht3, _, rfl, ?_⟩
        cases ev : (valV (tabK ts) (Sum.inr s)).isSome with
        | false => exact ifF ⟨s, rfl, hs, val_isn ev, ht3, C34⟩
        | true =>
          refine ifT ?_
          have nL : ∀ L, H3 L = none → L ≠ p ∧ L ≠ t := fun L e => ⟨C4.1.ne e, (ne_of_none ht3 e).symm⟩
          refine ⟨by show 3 ≤ sizeLine; decide, fun L hL => ⟨L, rfl, ⟨_, .of upd_same⟩, fun D hD => ?_⟩⟩
          have C5 := C34.mut (o := .lst ((["q", "r", "s"] : List Str).map V.str)) (C34.free hP hL) (nL L hL).1
          have nD : D ≠ p := C5.1.ne hD
          have nDL : D ≠ L := fun e => by rw [e, upd_same] at hD; cases hD
          have ht5 : upd H3 L (.lst ((["q", "r", "s"] : List Str).map V.str)) t = some (.dK (tabK ts)) := by rw [upd_ne (nL L hL).2.symm]; exact ht3
          have nDt : D ≠ t := (ne_of_none ht5 hD).symm
          have dH := C5.free hP hD
          refine lc_list (K := K) (a := L) (xs := (["q", "r", "s"] : List Str).map V.str) (fun i H' => H' D = some (.lst ((((["q", "r", "s"] : List Str).take i).filter fun n => !(valV (tabK ts) (Sum.inr n)).isSome).map V.str)) ∧ H' L = some (.lst ((["q", "r", "s"] : List Str).map V.str)) ∧ H' t = some (.dK (tabK ts)) ∧ Chs p H H')
            ⟨upd_same, by rw [upd_ne nDL.symm]; exact upd_same, by rw [upd_ne nDt.symm]; exact ht5, C5.mut dH nD⟩ (fun i H' _ hp => .of hp.2.1) (fun i x H' hx hp => ?_) (fun H' hp => ?_)
          · obtain ⟨h1, h2, h3, h4⟩ := hp
            obtain ⟨n, hn, rfl⟩ := map_at hx
            have hi : i < 3 := (List.getElem?_eq_some_iff.mp hn).1
            refine ⟨rfl, ?_⟩
            refine ⟨_, rfl, _, rfl, t, _, rfl, DGet.k (k := Sum.inr n) h3, _, rfl, ?_⟩
            have et : ((["q", "r", "s"] : List Str).take (i + 1)).filter (fun n => !(valV (tabK ts) (Sum.inr n)).isSome) = ((["q", "r", "s"] : List Str).take i).filter (fun n => !(valV (tabK ts) (Sum.inr n)).isSome) ++ [n].filter (fun n => !(valV (tabK ts) (Sum.inr n)).isSome) := by
              rw [take_snoc hn, List.filter_append]
            cases e : (valV (tabK ts) (Sum.inr n)).isSome with
            | true =>
              refine ifF ⟨?_, h2, h3, h4⟩
              rw [et, List.filter_cons_of_neg (by rw [e]; decide), List.filter_nil, List.append_nil]
              exact h1
            | false =>
              refine ifT ⟨_, rfl, _, h1, ?_, ?_, by rw [upd_ne nDL.symm]; exact h2, by rw [upd_ne nDt.symm]; exact h3, h4.mut dH nD⟩
              · rw [List.length_map]
                exact Nat.lt_of_le_of_lt (List.length_filter_le ..) (by rw [List.length_take]; show min i 3 < sizeLine; exact Nat.lt_of_le_of_lt (Nat.min_le_right ..) (by decide))
              · rw [et, List.filter_cons_of_pos (by rw [e]; rfl), List.map_append]
                exact upd_same
          · obtain ⟨h1, h2, h3, h4⟩ := hp
            have hex : ∃ n ∈ (["q", "r", "s"] : List Str), (valV (tabK ts) (Sum.inr n)).isSome = false := by
              refine Classical.byContradiction fun hno => ?_
              have hall : ∀ n ∈ (["q", "r", "s"] : List Str), n ∈ ts.map (·.1) := fun n hn => val_isy (by
                cases e : (valV (tabK ts) (Sum.inr n)).isSome with
                | true => rfl
                | false => exact absurd ⟨n, hn, e⟩ hno)
              have := (nd_sub nodup3 hall).1
              rw [List.length_map, hT.len] at this
              have h3 : (["q", "r", "s"] : List Str).length = 3 := rfl
              omega
            obtain ⟨n0, hn0, e0⟩ := hex
            have hm : n0 ∈ ((["q", "r", "s"] : List Str).take 3).filter fun n => !(valV (tabK ts) (Sum.inr n)).isSome := List.mem_filter.mpr ⟨hn0, by rw [e0]; rfl⟩
            obtain ⟨n, r, er⟩ : ∃ n r, ((["q", "r", "s"] : List Str).take 3).filter (fun n => !(valV (tabK ts) (Sum.inr n)).isSome) = n :: r := by
              cases e : ((["q", "r", "s"] : List Str).take 3).filter (fun n => !(valV (tabK ts) (Sum.inr n)).isSome) with
              | nil => rw [e] at hm; cases hm
              | cons n r => exact ⟨n, r, rfl⟩
            have hnm : n ∈ ((["q", "r", "s"] : List Str).take 3).filter (fun n => !(valV (tabK ts) (Sum.inr n)).isSome) := by rw [er]; exact List.mem_cons_self
            obtain ⟨g1, g2⟩ := List.mem_filter.mp hnm
            have h1 : H' D = some (.lst ((((["q", "r", "s"] : List Str).take 3).filter fun n => !(valV (tabK ts) (Sum.inr n)).isSome).map V.str)) := h1
            rw [er] at h1
            exact ⟨_, _, _, _, rfl, rfl, .of h1, atI_nat (j := 0) rfl, n, rfl, wd3 n g1, val_isn (by simpa using g2), h3, h4⟩
      · rintro σ H4 ⟨n, rfl, hn, hnn, ht4, C5⟩
        refine ⟨_, rfl, p, 3, rfl, C5.1, by decide, by decide, fun r H5 r0 r1 C6 => ⟨_, _, rfl, rfl, _, rfl, _, rfl, t, _, rfl, DPut.k (k := Sum.inr n) (C6.at nt ht4) ?_, ts ++ [(n, 1 + r)], _, _, rfl, ?_, ⟨⟨?_, ?_, ?_⟩, ?_⟩, (C5.trans C6).mut ht nt⟩⟩
        · unfold tabK
          rw [List.length_map]
          exact Nat.lt_of_le_of_lt (by have := hT.len; omega : _ ≤ 26) (by decide)
        · unfold tabK
          rw [snoc_map]
          refine Eq.trans upd_same (congrArg (fun x => some (HO.dK x)) (putK_new _ (valV_no ?_)))
          have e := keys_tab ts
          unfold tabK at e
          rw [e]
          exact inr_no hnn
        · rw [List.length_map, List.length_append, hT.len]; rfl
        · rw [List.map_append]
          exact List.nodup_append.mpr ⟨hT.nm.nd, by simp, fun x hx y hy e => by
            have hy : y = n := List.mem_singleton.mp hy
            rw [e, hy] at hx
            exact hnn hx⟩
        · intro z hz
          rw [List.map_append] at hz
          rcases List.mem_append.mp hz with h | h
          · exact hT.nm.wd z h
          · rw [show z = n from List.mem_singleton.mp h]
            exact hn
        · intro b hb
          rcases List.mem_append.mp hb with h | h
          · exact hT.wd b h
          · rw [List.mem_singleton.mp h]
            exact ⟨by show 1 ≤ 1 + r; omega, by show 1 + r ≤ 3; omega⟩
    · obtain ⟨ts, y2, y3, rfl, ht', hT, C3⟩ := hp
      have hl := hT.len
      exact ⟨_, rfl, q t ts H' ht ht' (by rw [hl]; exact hT) (by omega) (by omega) C3⟩
end
section
variable {P : Program} {w : World} {K : PySem.W.Frag} {mg : Str → Option Value} {base : Heap} {a : Nat → Addr} {d : Nat → FuncData}
def spTerm : Sp := fun vs H Q _ => ∃ (C : Addr → Prop) (p : Addr), vs = [.ref p] ∧ C p ∧ Cell H p ∧ Occ C H ∧ ∀ (v : V) (d : PyData) (H' : Hp), DA C H' 1 v d → Chs p H H' → Q v H'
theorem ok_term (T : Txt K mg a d) : FnOk P w K mg base CX0 4 (a 63) (d 63) ["_law_state_here"] spTerm := by
  have G59 : FnOk P w K mg base CX0 1 (a 59) (d 59) ["_law_state_here", "_law_many_here"] spPick2 := ok_pick2 T
  have G61 : FnOk P w K mg base CX0 3 (a 61) (d 61) ["_law_state_here"] spValue2 := ok_value2 T
  refine T.F63.ok sc__law_term (fun vs H Q E h => ?_) (fun cdv A outer s H vs Q E hr h => ?_)
  · obtain ⟨C, p, rfl, _⟩ := h
    rfl
  · obtain ⟨C, p, rfl, hc, hP, hO, q⟩ := h
    refine ⟨_, (pss_cons (ps_if (pt_cmpR op_eq (pe_call G59 (hr.mono (by decide)) (by rfl) T.g59 T.F59.kp T.b59 .nil pass0 (pa_cons (pv 0) (pa_cons pe_int pa_nil))) pe_int (nomark _))
    (pss_one (ps_ret (pe_call G61 (hr.mono (by decide)) (by rfl) T.g61 T.F61.kp T.b61 .nil pass0 (pa_cons (pv 0) pa_nil))))
    pss_nil)
  (pss_one (ps_ret (pe_tup (pa_cons (pe_ix ix_list (pe_lst (pa_cons pe_int (pa_cons pe_int (pa_cons pe_int (pa_cons (pe_op op_sub (pe_op op_pow pe_int pe_int) pe_int) pa_nil))))) (pe_call G59 (hr.mono (by decide)) (by rfl) T.g59 T.F59.kp T.b59 .nil pass0 (pa_cons (pv 0) (pa_cons pe_int pa_nil))) (fun _ _ => rfl)) pa_nil))))), ?_⟩
    refine ⟨_, rfl, p, 2, rfl, hP, by decide, by decide, fun r H1 r0 r1 C1 => ⟨rfl, _, rfl, ite_eqI (fun _ => ?_) (fun _ => ?_)⟩⟩
    · exact ⟨_, rfl, p, rfl, C1.1, fun v d H2 hv _ C2 => q v d H2 hv.da (C1.trans C2)⟩
    · refine ⟨_, _, rfl, rfl, ⟨by decide, by decide, by decide⟩, _, _, rfl, rfl, by show 4 ≤ sizeLine; decide, fun L hL => ?_⟩
      have nL := C1.1.ne hL
      have C2 := C1.mut (o := .lst [.int 0, .int 1, .int 2, .int ((10 : Int) ^ (30 : Int).toNat - 1)]) (C1.free hP hL) nL
      refine ⟨_, rfl, p, 4, rfl, C2.1, by decide, by decide, fun k H3 k0 k1 C3 => ?_⟩
      have hL3 := C3.at nL upd_same
      obtain ⟨v, hv⟩ := at_some (xs := [V.int 0, .int 1, .int 2, .int ((10 : Int) ^ (30 : Int).toNat - 1)]) k0 k1
      obtain ⟨i, rfl⟩ : ∃ i, v = .int i := by
        have := atI_mem hv
        simp only [List.mem_cons, List.not_mem_nil, or_false] at this
        rcases this with rfl | rfl | rfl | rfl <;> exact ⟨_, rfl⟩
      refine ⟨_, _, _, _, rfl, rfl, .of hL3, hv, by show 1 ≤ sizeLine; decide, fun t ht => ?_⟩
      have C4 := C2.trans C3
      have s4 := same_upd (o := .tup [.int i]) ht
      exact q _ (.tuple [.int i]) _ (.tup ((hO.chs C4).new ht) upd_same (by show 1 ≤ 5000; decide) (.cons (.int i) .nil)) (C4.sm s4)
def spPart : Sp := fun vs H Q _ => ∃ (C : Addr → Prop) (p t : Addr) (ts : List (Str × Int)) (m : Nat), vs = [.ref p, .ref t, .int (m : Int)] ∧ C p ∧ Cell H p ∧ Occ C H ∧ H t = some (.dK (tabK ts)) ∧ Tabs ts ts.length 3 ∧ 1 ≤ ts.length ∧ ts.length ≤ 3 ∧ m ≤ 3 ∧ ∀ (v : V) (d : PyData) (H' : Hp), DA C H' 5 v d → Chs p H H' → Q v H'
theorem ok_part (T : Txt K mg a d) : FnOk P w K mg base CX0 5 (a 64) (d 64) ["_law_state_here", "_law_tables_here", "_law_width"] spPart := by
  have G59 : FnOk P w K mg base CX0 1 (a 59) (d 59) ["_law_state_here", "_law_many_here"] spPick2 := ok_pick2 T
  have G61 : FnOk P w K mg base CX0 3 (a 61) (d 61) ["_law_state_here"] spValue2 := ok_value2 T
  have G63 : FnOk P w K mg base CX0 4 (a 63) (d 63) ["_law_state_here"] spTerm := ok_term T
  refine T.F64.ok sc__law_part (fun vs H Q E h => ?_) (fun cdv A outer s H vs Q E hr h => ?_)
  · obtain ⟨C, p, t, ts, m, rfl, _⟩ := h
    rfl
  · obtain ⟨C, p, t, ts, m, rfl, hc, hP, hO, ht, hT, t1, t3, m3, q⟩ := h
    have hu := hu_of hr
    refine ⟨_, (pss_cons (ps_set (i := 3) sc__law_part.nd rfl (.inl rfl) (pe_callTy (T := "list")  (call_listD rfl) (by rfl) T.z_list (by decide +kernel) (pa_cons (pv 1) pa_nil)))
  (pss_cons (ps_set (i := 4) sc__law_part.nd rfl (.inl rfl) (pe_lst pa_nil))
  (pss_cons (ps_set (i := 5) sc__law_part.nd rfl (.inr rfl) (pe_lst (pa_cons (pe_call G61 (hr.mono (by decide)) (by rfl) T.g61 T.F61.kp T.b61 .nil pass0 (pa_cons (pv 0) pa_nil)) pa_nil)))
  (pss_cons (ps_for PassesOwn.never rfl (pi_range1 (by rfl) T.z_range (pa_cons (pe_call G59 (hr.mono (by decide)) (by rfl) T.g59 T.F59.kp T.b59 .nil pass0 (pa_cons (pv 0) (pa_cons pe_int pa_nil))) pa_nil)) (pg_name (i := 6) sc__law_part.nd rfl (.inl rfl))
    (pss_cons (ps_set (i := 7) sc__law_part.nd rfl (.inl rfl) (pe_ix ix_list (pv 3) (pe_call G59 (hr.mono (by decide)) (by rfl) T.g59 T.F59.kp T.b59 .nil pass0 (pa_cons (pv 0) (pa_cons (pe_callB (id := "len")  call_len_seq (by rfl) T.z_len (by decide +kernel) (pa_cons (pv 3) pa_nil)) pa_nil))) (fun _ _ => rfl)))
      (pss_cons (ps_set (i := 8) sc__law_part.nd rfl (.inl rfl) (pe_callTy (T := "tuple")  call_tuple_of (by rfl) T.z_tuple (by decide +kernel) (pa_cons (pe_lc (own := [("_law_column", 9)]) rfl sc__law_part.nd (pi_range1 (by rfl) T.z_range (pa_cons (pe_dget (hu_of hr) (pv 1) (pv 7) (fun _ _ => rfl)) pa_nil)) (blkOk_by (N := ["_law_state_here", "_law_tables_here", "_law_width", "_law_names", "_law_atoms", "_law_safe", "_law_k", "_law_name", "_law_terms", "_law_column"]) (sc := defScope s__law_part) (by decide +kernel)) (fun _ _ _ _ _ => pg_name (i := 9) sc__law_part.nd rfl (.inl rfl)) (fun _ _ _ _ _ => pts_nil) (fun _ _ _ _ _ => (pe_call G63 (hr.mono (by decide)) (by rfl) T.g63 T.F63.kp T.b63 .nil pass0 (pa_cons (pv 0) pa_nil)))) pa_nil)))
      (pss_cons (ps_expr (pe_bm PySem.F.plainAttrs_list PySem.F.slot_list_append PySem.F.type_list_append mt_append (pv 4) (pa_cons (pe_tup (pa_cons (pv 7) (pa_cons (pv 8) pa_nil))) pa_nil)))
      (pss_one (ps_expr (pe_bm PySem.F.plainAttrs_list PySem.F.slot_list_extend PySem.F.type_list_extend mt_extend (pv 5) (pa_cons (pe_callTy (T := "list")  call_list_of (by rfl) T.z_list (by decide +kernel) (pa_cons (pv 8) pa_nil)) pa_nil))))))))
  (pss_one (ps_ret (pe_tup (pa_cons (pe_callTy (T := "tuple")  call_tuple_of (by rfl) T.z_tuple (by decide +kernel) (pa_cons (pe_lc (own := [("_law_k", 6)]) rfl sc__law_part.nd (pi_range1 (by rfl) T.z_range (pa_cons (pv 2) pa_nil)) (blkOk_by (N := ["_law_state_here", "_law_tables_here", "_law_width", "_law_names", "_law_atoms", "_law_safe", "_law_k", "_law_name", "_law_terms", "_law_column"]) (sc := defScope s__law_part) (by decide +kernel)) (fun _ _ _ _ _ => pg_name (i := 6) sc__law_part.nd rfl (.inl rfl)) (fun _ _ _ _ _ => pts_nil) (fun _ _ _ _ _ => (pe_ix (r := rIxL K) ix_list (pv 5) (pe_call G59 (hr.mono (by decide)) (by rfl) T.g59 T.F59.kp T.b59 .nil pass0 (pa_cons (pv 0) (pa_cons (pe_callB (id := "len") (r := Evl.rLenS K)  call_len_seq (by rfl) T.z_len (by decide +kernel) (pa_cons (pv 5) pa_nil)) pa_nil))) (fun _ _ => rfl)))) pa_nil)) (pa_cons (pv 4) pa_nil))))))))), ?_⟩
    have nt : t ≠ p := cell_ne hP ht (by intro _ z; cases z)
    have kn : (tabK ts).map (fun kv => kV kv.1) = (ts.map (·.1)).map V.str := by
      have h := keys_tab ts
      have : (tabK ts).map (fun kv => kV kv.1) = ((tabK ts).map (·.1)).map kV := by rw [List.map_map]; rfl
      rw [this, h, List.map_map]
      rfl
    refine ⟨_, rfl, t, _, rfl, .inl ht, fun N hN => ?_⟩
    rw [kn]
    have nN := hP.ne hN
    have C1 := (Chs.refl hP).mut (o := .lst ((ts.map (·.1)).map V.str)) hN nN
    refine ⟨Nat.zero_le _, fun A0 hA0 => ?_⟩
    have nA := C1.1.ne hA0
    have nAN : A0 ≠ N := fun e => by rw [e, upd_same] at hA0; cases hA0
    have ht1 : upd H N (.lst ((ts.map (·.1)).map V.str)) t = some (.dK (tabK ts)) := by rw [upd_ne (ne_of_none ht hN)]; exact ht
    have nAt : A0 ≠ t := (ne_of_none ht1 hA0).symm
    have fA := C1.free hP hA0
    have C2 := C1.mut (o := .lst []) fA nA
    refine ⟨_, rfl, p, rfl, C2.1, fun v0 d0 H3 hv0 _ C3' => ?_⟩
    have C3 := C2.trans C3'
    refine ⟨by show 1 ≤ sizeLine; decide, fun S0 hS0 => ?_⟩
    have nS := C3.1.ne hS0
    have hN3 : H3 N = some (.lst ((ts.map (·.1)).map V.str)) := C3'.at nN (by rw [upd_ne nAN.symm]; exact upd_same)
    have ht3 : H3 t = some (.dK (tabK ts)) := C3.at nt ht
    have hA3 : H3 A0 = some (.lst []) := C3'.at nA upd_same
    have nSN : S0 ≠ N := (ne_of_none hN3 hS0).symm
    have nSt : S0 ≠ t := (ne_of_none ht3 hS0).symm
    have nSA : S0 ≠ A0 := (ne_of_none hA3 hS0).symm
    have fS := C3.free hP hS0
    have C4 := C3.mut (o := .lst [v0]) fS nS
    have kC : ∀ x, ¬ C x → x ≠ p := fun x h e => h (e ▸ hc)
    refine ⟨_, rfl, p, 5, rfl, C4.1, by decide, by decide, fun n H5 n0 n1 C5' => ⟨_, rfl, by omega, by omega, ?_⟩⟩
    have C5 := C4.trans C5'
    refine for_range (lo := 0) (n := n.toNat) (fun i σ H' => ∃ (avs svs : List V) (ads sds : List PyData) (y6 y7 y8 : Option V), σ = [some (.ref p), some (.ref t), some (.int m), some (.ref N), some (.ref A0), some (.ref S0), y6, y7, y8, none] ∧ H' N = some (.lst ((ts.map (·.1)).map V.str)) ∧ H' t = some (.dK (tabK ts)) ∧ H' A0 = some (.lst avs) ∧ avs.length = i ∧ Paired (DA (fun x => C x ∨ x = A0 ∨ x = S0) H' 3) avs ads ∧ H' S0 = some (.lst svs) ∧ 1 ≤ svs.length ∧ svs.length ≤ 1 + 3 * i ∧ Paired (DA (fun x => C x ∨ x = A0 ∨ x = S0) H' 1) svs sds ∧ Chs p H H')
      ⟨[], [v0], [], [d0], none, none, none, rfl, C5'.at nN (by rw [upd_ne nSN.symm]; exact hN3), C5.at nt ht, C5'.at nA (by rw [upd_ne nSA.symm]; exact hA3), rfl, .nil, C5'.at nS upd_same, Nat.le_refl _, Nat.le_refl _, .cons hv0.da .nil, C5⟩ (fun i σ H' hi hp => ?_) (fun σ H' hp => ?_)
    · obtain ⟨avs, svs, ads, sds, y6, y7, y8, rfl, hN', ht', hA', la, pa, hS', ls1, ls2, ps, C6⟩ := hp
      have hi5 : i < 5 := by omega
      have ln : ((ts.map (·.1)).map V.str).length = ts.length := by rw [List.length_map, List.length_map]
      refine ⟨_, rfl, _, rfl, _, rfl, N, _, rfl, .inl (.of hN'), p, (((ts.map (·.1)).map V.str).length : Int), rfl, C6.1, by rw [ln]; omega, by rw [ln, Int.natAbs_natCast]; exact Nat.lt_of_le_of_lt t3 (by decide), fun r H7 r0 r1 C7' => ?_⟩
      have C7 := C6.trans C7'
      obtain ⟨v, hv⟩ := at_some (xs := (ts.map (·.1)).map V.str) r0 r1
      obtain ⟨nm, hnm, rfl⟩ := List.mem_map.mp (atI_mem hv)
      obtain ⟨b, hb, rfl⟩ := List.mem_map.mp hnm
      refine ⟨_, _, _, _, rfl, rfl, .of (C7'.at nN hN'), hv, ?_⟩
      have ht7 := C7'.at nt ht'
      have hw := hT.wd b hb
      refine ⟨_, rfl, _, rfl, t, _, rfl, tab_at ht7 hT.nm.nd (w := b.2) hb, ?_⟩
      refine ⟨_, rfl, by omega, by omega, fun D hD => ?_⟩
      have nD := C7.1.ne hD
      have hN7 := C7'.at nN hN'
      have hA7 := C7'.at nA hA'
      have hS7 := C7'.at nS hS'
      have pa7 := paired_imp (fun _ _ h => DA.chs h C7' (.inl hc)) pa
      have ps7 := paired_imp (fun _ _ h => DA.chs h C7' (.inl hc)) ps
      have nDA : D ≠ A0 := (ne_of_none hA7 hD).symm
      have nDS : D ≠ S0 := (ne_of_none hS7 hD).symm
      have nDN : D ≠ N := (ne_of_none hN7 hD).symm
      have nDt : D ≠ t := (ne_of_none ht7 hD).symm
      have fD := C7.free hP hD
      refine lc_range (lo := 0) (n := (b.2).toNat) (fun j H' => ∃ (xs : List V) (ds : List PyData), H' D = some (.lst xs) ∧ xs.length = j ∧ Paired (DA (fun x => C x ∨ x = A0 ∨ x = S0 ∨ x = D) H' 1) xs ds ∧ Chs p H7 H' ∧ ∀ o, H7 D = some o → False)
        ⟨[], [], upd_same, rfl, .nil, (Chs.refl C7.1).mut hD nD, fun o e => by rw [hD] at e; cases e⟩ (fun j H' hj hp => ?_) (fun H8 hp => ?_)
      · obtain ⟨xs, ds, h1, h2, h3, h4, h5⟩ := hp
        have occ : Occ (fun x => C x ∨ x = A0 ∨ x = S0 ∨ x = D) H' := fun x hx => by
          rcases hx with hx | rfl | rfl | rfl
          · exact (hO.chs (C7.trans h4)) x hx
          · exact ⟨_, h4.at nA hA7⟩
          · exact ⟨_, h4.at nS hS7⟩
          · exact ⟨_, h1⟩
        refine ⟨rfl, _, rfl, (fun x => C x ∨ x = A0 ∨ x = S0 ∨ x = D), p, rfl, .inl hc, h4.1, occ, fun v d H9 hv C9 => ?_⟩
        refine ⟨_, C9.at nD h1, small1000 (by omega), xs ++ [v], ds ++ [d], upd_same, by rw [List.length_append, h2]; rfl, ?_, (h4.trans C9).mut hD nD, h5⟩
        have kp : ∀ x o, ¬ (C x ∨ x = A0 ∨ x = S0 ∨ x = D) → H9 x = some o → upd H9 D (.lst (xs ++ [v])) x = some o := fun x o hn e => by
          rw [upd_ne (fun e' => hn (.inr (.inr (.inr e'))))]
          exact e
        exact paired_app (paired_imp (fun _ _ h => (DA.chs h C9 (.inl hc)).keep kp) h3) (.cons (hv.keep kp) .nil)
      · obtain ⟨xs, ds, h1, h2, h3, h4, _⟩ := hp
        have C8 := C7.trans h4
        refine ⟨D, _, rfl, .inl ⟨.of h1, fun tp htp => ?_⟩⟩
        have s8 := same_upd (o := .tup xs) htp
        have C9 := C8.sm s8
        have nCt : ¬ (C tp ∨ tp = A0 ∨ tp = S0 ∨ tp = D) := fun x => by
          rcases x with x | rfl | rfl | rfl
          · exact (hO.chs C8).new htp x
          · rw [h4.at nA hA7] at htp; cases htp
          · rw [h4.at nS hS7] at htp; cases htp
          · rw [h1] at htp; cases htp
        have b3 : b.2.toNat ≤ 3 := by omega
        have w4 : ∀ x, (C x ∨ x = A0 ∨ x = S0) → (C x ∨ x = A0 ∨ x = S0 ∨ x = D) := fun x h => by
          rcases h with h | h | h
          · exact .inl h
          · exact .inr (.inl h)
          · exact .inr (.inr (.inl h))
        have h3' : Paired (DA (fun x => C x ∨ x = A0 ∨ x = S0) (upd H8 tp (.tup xs)) 1) xs ds := paired_imp (fun _ _ h => (h.weak w4).same s8) h3
        have tpD : DA (fun x => C x ∨ x = A0 ∨ x = S0) (upd H8 tp (.tup xs)) 2 (.ref tp) (.tuple ds) := .tup (fun x => nCt (w4 _ x)) upd_same (by omega) h3'
        have hA8 := h4.at nA hA7
        have hS8 := h4.at nS hS7
        have ntA : tp ≠ A0 := fun e => nCt (.inr (.inl e))
        have ntS : tp ≠ S0 := fun e => nCt (.inr (.inr (.inl e)))
        refine ⟨_, rfl, .inl ⟨rfl, _, .of (s8 _ _ hA8)⟩, _, rfl, _, rfl, by show 2 ≤ sizeLine; decide, fun q2 hq2 => ?_⟩
        have s9 := same_upd (o := .tup [.str b.1, .ref tp]) hq2
        have nCq : ¬ (C q2 ∨ q2 = A0 ∨ q2 = S0) := fun x => by
          rcases x with x | rfl | rfl
          · exact (hO.chs C9).new hq2 x
          · rw [s8 _ _ hA8] at hq2; cases hq2
          · rw [s8 _ _ hS8] at hq2; cases hq2
        have qD : DA (fun x => C x ∨ x = A0 ∨ x = S0) _ 3 (.ref q2) (.tuple [.str b.1, .tuple ds]) := .tup nCq upd_same (by show 2 ≤ 5000; decide) (.cons (wd_sc (hT.nm.wd _ (List.mem_map.mpr ⟨b, hb, rfl⟩))).da (.cons (tpD.same s9) .nil))
        have C10 := C9.sm s9
        have hA10 := s9 _ _ (s8 _ _ hA8)
        have hS10 := s9 _ _ (s8 _ _ hS8)
        have pa8 : Paired (DA (fun x => C x ∨ x = A0 ∨ x = S0) (upd (upd H8 tp (.tup xs)) q2 (.tup [.str b.1, .ref tp])) 3) (avs ++ [.ref q2]) (ads ++ [.tuple [.str b.1, .tuple ds]]) :=
          paired_app (paired_imp (fun _ _ h => ((DA.chs h h4 (.inl hc)).same s8).same s9) pa7) (.cons qD .nil)
        have ps8 : Paired (DA (fun x => C x ∨ x = A0 ∨ x = S0) (upd (upd H8 tp (.tup xs)) q2 (.tup [.str b.1, .ref tp])) 1) (svs ++ xs) (sds ++ ds) :=
          paired_app (paired_imp (fun _ _ h => ((DA.chs h h4 (.inl hc)).same s8).same s9) ps7) (paired_imp (fun _ _ h => h.same s9) h3')
        have htp10 := s9 _ _ (upd_same (a := tp) (o := .tup xs) (H := H8))
        have hN10 := s9 _ _ (s8 _ _ (h4.at nN hN7))
        have ht10 := s9 _ _ (s8 _ _ (h4.at nt ht7))
        generalize upd (upd H8 tp (.tup xs)) q2 (.tup [.str b.1, .ref tp]) = H10 at *
        refine ⟨A0, avs, _, rfl, rfl, hA10, small1000 (by omega), ?_⟩
        have k1 : ∀ x o, ¬ (C x ∨ x = A0 ∨ x = S0) → H10 x = some o → upd H10 A0 (.lst (avs ++ [.ref q2])) x = some o := fun x o hn e => by
          rw [upd_ne (fun e' => hn (.inr (.inl e')))]
          exact e
        refine ⟨_, rfl, .inl ⟨rfl, _, .of (by rw [upd_ne nSA]; exact hS10)⟩, _, rfl, tp, xs, rfl, .inr (.of (by rw [upd_ne ntA]; exact htp10)), fun L hL => ?_⟩
        have C11 : Chs p H (upd H10 A0 (.lst (avs ++ [.ref q2]))) := C10.mut fA nA
        have hS11 : upd H10 A0 (.lst (avs ++ [.ref q2])) S0 = some (.lst svs) := by rw [upd_ne nSA]; exact hS10
        have hN11 : upd H10 A0 (.lst (avs ++ [.ref q2])) N = some (.lst ((ts.map (·.1)).map V.str)) := by rw [upd_ne nAN.symm]; exact hN10
        have ht11 : upd H10 A0 (.lst (avs ++ [.ref q2])) t = some (.dK (tabK ts)) := by rw [upd_ne nAt.symm]; exact ht10
        have hA11 : upd H10 A0 (.lst (avs ++ [.ref q2])) A0 = some (.lst (avs ++ [.ref q2])) := upd_same
        have pa11 := paired_imp (fun _ _ h => DA.keep k1 h) pa8
        have ps11 := paired_imp (fun _ _ h => DA.keep k1 h) ps8
        generalize upd H10 A0 (.lst (avs ++ [.ref q2])) = H11 at *
        clear k1
        have sL := same_upd (o := .lst xs) hL
        have nLS : L ≠ S0 := (ne_of_none hS11 hL).symm
        refine ⟨S0, L, svs, xs, rfl, rfl, sL _ _ hS11, upd_same, ?_, ?_⟩
        · exact Nat.le_of_lt (small1000 (by omega))
        have k2 : ∀ x o, ¬ (C x ∨ x = A0 ∨ x = S0) → upd H11 L (.lst xs) x = some o → upd (upd H11 L (.lst xs)) S0 (.lst (svs ++ xs)) x = some o := fun x o hn e => by
          rw [upd_ne (fun e' => hn (.inr (.inr e')))]
          exact e
        refine ⟨avs ++ [.ref q2], svs ++ xs, _, _, _, _, _, rfl, ?_, ?_, ?_, by rw [List.length_append, la]; rfl, paired_imp (fun _ _ h => (h.same sL).keep k2) pa11, upd_same, by rw [List.length_append]; omega, by rw [List.length_append]; omega, paired_imp (fun _ _ h => (h.same sL).keep k2) ps11, (C11.sm sL).mut fS nS⟩
        · rw [upd_ne nSN.symm]; exact sL _ _ hN11
        · rw [upd_ne nSt.symm]; exact sL _ _ ht11
        · rw [upd_ne nSA.symm]; exact sL _ _ hA11
    · obtain ⟨avs, svs, ads, sds, y6, y7, y8, rfl, hN', ht', hA', la, pa, hS', ls1, ls2, ps, C6⟩ := hp
      refine ⟨_, rfl, _, rfl, by omega, by omega, fun D hD => ?_⟩
      have nD := C6.1.ne hD
      have nDA : D ≠ A0 := (ne_of_none hA' hD).symm
      have nDS : D ≠ S0 := (ne_of_none hS' hD).symm
      have fD := C6.free hP hD
      refine lc_range (lo := 0) (n := (m : Int).toNat) (fun j H' => ∃ (xs : List V) (ds : List PyData), H' D = some (.lst xs) ∧ xs.length = j ∧ Paired (DA (fun x => C x ∨ x = D) H' 1) xs ds ∧ Chs p H H' ∧ H' S0 = some (.lst svs) ∧ Paired (DA (fun x => C x ∨ x = D) H' 1) svs sds ∧ H' A0 = some (.lst avs) ∧ Paired (DA (fun x => C x ∨ x = D) H' 3) avs ads)
        ⟨[], [], upd_same, rfl, .nil, C6.mut fD nD, by rw [upd_ne nDS.symm]; exact hS', paired_imp (fun _ _ h => ((h.weak fun x hx => .inl hx).fresh hD).same (same_upd hD)) ps, by rw [upd_ne nDA.symm]; exact hA', paired_imp (fun _ _ h => ((h.weak fun x hx => .inl hx).fresh hD).same (same_upd hD)) pa⟩ (fun j H' hj hp => ?_) (fun H8 hp => ?_)
      · obtain ⟨xs, ds, h1, h2, h3, h4, h5, h6, h7, h8⟩ := hp
        have l100 : svs.length ≤ 100 := by omega
        refine ⟨rfl, _, rfl, _, rfl, _, rfl, S0, _, rfl, .inl (.of h5), p, (svs.length : Int), rfl, h4.1, by omega, by rw [Int.natAbs_natCast]; exact Nat.lt_of_le_of_lt l100 (by decide), fun r H9 r0 r1 C9 => ?_⟩
        obtain ⟨v, hv⟩ := at_some (xs := svs) r0 r1
        obtain ⟨dv, hdv, hvd⟩ := paired_any h6 (atI_mem hv)
        refine ⟨_, _, _, _, rfl, rfl, .of (C9.at nS h5), hv, _, C9.at nD h1, small1000 (by omega), xs ++ [v], ds ++ [dv], upd_same, by rw [List.length_append, h2]; rfl, ?_, (h4.trans C9).mut fD nD, ?_, ?_, ?_, ?_⟩
        · have kp : ∀ x o, ¬ (C x ∨ x = D) → H9 x = some o → upd H9 D (.lst (xs ++ [v])) x = some o := fun x o hn e => by
            rw [upd_ne (fun e' => hn (.inr e'))]
            exact e
          exact paired_app (paired_imp (fun _ _ h => (DA.chs h C9 (.inl hc)).keep kp) h3) (.cons ((DA.chs hvd C9 (.inl hc)).keep kp) .nil)
        · rw [upd_ne nDS.symm]; exact C9.at nS h5
        · have kp : ∀ x o, ¬ (C x ∨ x = D) → H9 x = some o → upd H9 D (.lst (xs ++ [v])) x = some o := fun x o hn e => by
            rw [upd_ne (fun e' => hn (.inr e'))]
            exact e
          exact paired_imp (fun _ _ h => (DA.chs h C9 (.inl hc)).keep kp) h6
        · rw [upd_ne nDA.symm]; exact C9.at nA h7
        · have kp : ∀ x o, ¬ (C x ∨ x = D) → H9 x = some o → upd H9 D (.lst (xs ++ [v])) x = some o := fun x o hn e => by
            rw [upd_ne (fun e' => hn (.inr e'))]
            exact e
          exact paired_imp (fun _ _ h => (DA.chs h C9 (.inl hc)).keep kp) h8
      · obtain ⟨xs, ds, h1, h2, h3, h4, h5, h6, h7, h8⟩ := hp
        refine ⟨D, _, rfl, .inl ⟨.of h1, fun tp htp => ?_⟩⟩
        have s8 := same_upd (o := .tup xs) htp
        refine ⟨_, rfl, by show 2 ≤ sizeLine; decide, fun q2 hq2 => ?_⟩
        have s9 := same_upd (o := .tup [.ref tp, .ref A0]) hq2
        have O8 := hO.chs h4
        have nCA : ¬ C A0 := fun h => (hO.chs C1).new hA0 h
        have hdD : DA C (upd H8 tp (.tup xs)) 2 (.ref tp) (.tuple ds) := .tup (O8.new htp) upd_same (by omega) (paired_imp (fun _ _ h => (h.weak fun x hx => .inl hx).same s8) h3)
        have atD : DA C (upd H8 tp (.tup xs)) 4 (.ref A0) (.list ads) := .lst nCA (s8 _ _ h7) (by omega) (paired_imp (fun _ _ h => (h.weak fun x hx => .inl hx).same s8) h8)
        exact q _ _ _ (.tup ((O8.same s8).new hq2) upd_same (by show 2 ≤ 5000; decide) (.cons ((hdD.up (by decide)).same s9) (.cons (atD.same s9) .nil))) ((h4.sm s8).sm s9)
end
section
variable {P : Program} {w : World} {K : PySem.W.Frag} {mg : Str → Option Value} {base : Heap} {a : Nat → Addr} {d : Nat → FuncData}
def spDB (f : PyData → Bool) : Sp := fun vs H Q _ => ∃ (C : Addr → Prop) (n : Nat) (v : V) (d : PyData), vs = [v] ∧ DA C H n v d ∧ ∀ H', Same H H' → Q (.bl (f d)) H'
theorem ok_is_variable (T : Txt K mg a d) : FnOk P w K mg base CX0 2 (a 15) (d 15) ["thing"] (spDB varD) := by
  have G11 : FnOk P w K mg base CX0 1 (a 11) (d 11) ["thing"] (spB plainV) := ok_plain T
  refine T.F15.ok sc_is_variable (fun vs H Q E h => ?_) (fun cdv A outer s H vs Q E hr h => ?_)
  · obtain ⟨C, n, v, d, rfl, _⟩ := h
    rfl
  · obtain ⟨C, n, v, d, rfl, hv, q⟩ := h
    obtain ⟨t9, h_GREATEST_VALUE⟩ := T.c_GREATEST_VALUE
    obtain ⟨nm, hty, k1, _⟩ := hv.ty (K := K)
    refine ⟨_, (pss_cons (ps_if (PW.pt (pw_or (pt_not (pt_val (pe_callB (id := "isinstance")  call_isi (by rfl) T.z_isinstance (by decide +kernel) (pa_cons (pv 0) (pa_cons (pe_bltn (v := .ty "tuple") (by rfl) T.z_tuple (by decide +kernel) rfl) pa_nil))))) (pw_or1 (pt_cmpR op_ne (pe_callB (id := "len")  call_len_seq (by rfl) T.z_len (by decide +kernel) (pa_cons (pv 0) pa_nil)) pe_int (nomark _)))))
    (pss_one (ps_ret pe_bl))
    pss_nil)
  (pss_one (ps_ret (pe_and (pe_call G11 (hr.mono (by decide)) (by rfl) T.g11 T.F11.kp T.b11 .nil pass0 (pa_cons (pe_ix ix_tup (pv 0) pe_int (fun _ _ => rfl)) pa_nil)) (pe_one (pe_chain op_le op_le pe_int (pe_ix ix_tup (pv 0) pe_int (fun _ _ => rfl)) (pe_glob (v := .int (999999999999999999999999999999)) rfl h_GREATEST_VALUE ⟨_, rfl⟩))))))), ?_⟩
    refine ⟨_, rfl, _, _, _, _, _, rfl, .ty _, hty, kit_ty k1, _, rfl, ?_⟩
    cases d with
    | tuple ds =>
      obtain ⟨p, xs, k, rfl, rfl, _, hp, _, pr⟩ := hv.asTup
      refine ifF ?_
      refine ⟨_, rfl, p, _, rfl, .inr (.of hp), rfl, _, rfl, ?_⟩
      have no : ds.length ≠ 1 → Q (.bl false) H := fun h => by
        have q1 := q H (Same.refl H)
        rw [varD_len h] at q1
        exact q1
      have hl := Paired.length pr
      refine ite_nd (fun h => no fun e => h (by rw [hl, e]; rfl)) (fun h => ?_)
      have h : xs.length = 1 := by have := V.int.inj h; omega
      match xs, ds, pr, h with
      | [x], [e], .cons hx .nil, _ =>
        refine ⟨_, rfl, _, _, _, _, rfl, rfl, .of hp, atI_nat (j := 0) rfl, x, rfl, hx.thg, fun H1 s1 => ⟨_, rfl, ?_⟩⟩
        rw [hx.plain]
        cases e with
        | int i =>
          have := hx.asInt
          subst this
          have q1 : Q (.bl (decide (0 ≤ i ∧ i ≤ 999999999999999999999999999999))) H1 := q H1 s1
          refine ifT ⟨_, rfl, _, _, _, _, rfl, rfl, .of (s1 _ _ hp), atI_nat (j := 0) rfl, _, _, rfl, rfl, _, rfl, ite_d (fun h1 => ?_) (fun h1 => ?_)⟩
          · refine ⟨_, _, rfl, rfl, ?_⟩
            have h1 : 0 ≤ i := h1
            show Q (.bl (decide (i ≤ 999999999999999999999999999999))) H1
            rw [show decide (i ≤ 999999999999999999999999999999) = decide (0 ≤ i ∧ i ≤ 999999999999999999999999999999) by simp [h1]]
            exact q1
          · have h1 : ¬ 0 ≤ i := h1
            rw [decide_eq_false (fun z => h1 z.1)] at q1
            exact q1
        | none => exact ifF (q H1 s1)
        | bool b => exact ifF (q H1 s1)
        | str z => exact ifF (q H1 s1)
        | list z => exact ifF (q H1 s1)
        | tuple z => exact ifF (q H1 s1)
        | dict z => exact ifF (q H1 s1)
    | none => exact ifT (q H (Same.refl H))
    | bool b => exact ifT (q H (Same.refl H))
    | int i => exact ifT (q H (Same.refl H))
    | str z => exact ifT (q H (Same.refl H))
    | list z => exact ifT (q H (Same.refl H))
    | dict z => exact ifT (q H (Same.refl H))
theorem ok_is_term (T : Txt K mg a d) : FnOk P w K mg base CX0 3 (a 16) (d 16) ["thing"] (spDB termD) := by
  have G13 : FnOk P w K mg base CX0 2 (a 13) (d 13) ["thing"] (spB valV') := ok_is_value T
  have G15 : FnOk P w K mg base CX0 2 (a 15) (d 15) ["thing"] (spDB varD) := ok_is_variable T
  refine T.F16.ok sc_is_term (fun vs H Q E h => ?_) (fun cdv A outer s H vs Q E hr h => ?_)
  · obtain ⟨C, n, v, d, rfl, _⟩ := h
    rfl
  · obtain ⟨C, n, v, d, rfl, hv, q⟩ := h
    refine ⟨_, (pss_one (ps_ret (pe_or (pe_call G13 (hr.mono (by decide)) (by rfl) T.g13 T.F13.kp T.b13 .nil pass0 (pa_cons (pv 0) pa_nil)) (pe_one (pe_call G15 (hr.mono (by decide)) (by rfl) T.g15 T.F15.kp T.b15 .nil pass0 (pa_cons (pv 0) pa_nil)))))), ?_⟩
    refine ⟨_, rfl, v, rfl, hv.thg, fun H1 s1 => ⟨_, rfl, ?_⟩⟩
    rw [hv.val]
    unfold termD at q
    cases e : valD d with
    | true =>
      rw [e] at q
      exact ifT (q H1 s1)
    | false =>
      rw [e] at q
      exact ifF ⟨_, rfl, C, n, v, d, rfl, hv.same s1, fun H2 s2 => q H2 (s1.trans s2)⟩
theorem ok_is_atom (T : Txt K mg a d) : FnOk P w K mg base CX0 1 (a 48) (d 48) ["thing"] (spDB atomD) := by
  refine T.F48.ok sc__is_atom (fun vs H Q E h => ?_) (fun cdv A outer s H vs Q E hr h => ?_)
  · obtain ⟨C, n, v, d, rfl, _⟩ := h
    rfl
  · obtain ⟨C, n, v, d, rfl, hv, q⟩ := h
    obtain ⟨nm, hty, k1, _⟩ := hv.ty (K := K)
    refine ⟨_, (pss_one (ps_ret (pe_and (pe_callB (id := "isinstance")  call_isi (by rfl) T.z_isinstance (by decide +kernel) (pa_cons (pv 0) (pa_cons (pe_bltn (v := .ty "tuple") (by rfl) T.z_tuple (by decide +kernel) rfl) pa_nil))) (pe_and (pe_cmpR op_eq (pe_callB (id := "len")  call_len_seq (by rfl) T.z_len (by decide +kernel) (pa_cons (pv 0) pa_nil)) pe_int (nomark _)) (pe_one (pe_callB (id := "isinstance")  call_isi (by rfl) T.z_isinstance (by decide +kernel) (pa_cons (pe_ix ix_tup (pv 0) pe_int (fun _ _ => rfl)) (pa_cons (pe_bltn (v := .ty "tuple") (by rfl) T.z_tuple (by decide +kernel) rfl) pa_nil)))))))), ?_⟩
    refine ⟨_, rfl, _, _, _, _, _, rfl, .ty _, hty, kit_ty k1, _, rfl, ?_⟩
    cases d with
    | tuple ds =>
      obtain ⟨p, xs, k, rfl, rfl, _, hp, _, pr⟩ := hv.asTup
      refine ifT ?_
      refine ⟨_, rfl, p, _, rfl, .inr (.of hp), rfl, ?_⟩
      have hl := Paired.length pr
      have no : ds.length ≠ 2 → Q (.bl false) H := fun h => by
        have q1 := q H (Same.refl H)
        rw [atomD_len h] at q1
        exact q1
      refine ⟨_, rfl, ite_d (fun h => ?_) (fun h => ?_)⟩
      · have h : xs.length = 2 := by have := V.int.inj h; omega
        match xs, ds, pr, h with
        | [x, y], [e, f], .cons hx (.cons hy .nil), _ =>
          obtain ⟨nm2, hty2, k2, _⟩ := hy.ty (K := K)
          refine ⟨_, rfl, _, _, _, _, rfl, rfl, .of hp, atI_nat (j := 1) rfl, _, _, _, _, _, rfl, .ty _, hty2, kit_ty k2, ?_⟩
          have q1 := q H (Same.refl H)
          cases f <;> exact q1
      · have q1 := no fun e => h (by rw [hl, e]; rfl)
        exact q1
    | none => exact ifF (q H (Same.refl H))
    | bool b => exact ifF (q H (Same.refl H))
    | int i => exact ifF (q H (Same.refl H))
    | str z => exact ifF (q H (Same.refl H))
    | list z => exact ifF (q H (Same.refl H))
    | dict z => exact ifF (q H (Same.refl H))
end
/-! ### two generators, the second over what the first gives -/
section
theorem lc2_in {J1 : It} {n : Nat} {Gd : Hp → Prop} {Y : Nat → Hp → V → Hp → Prop} (w : Walk J1 n Gd Y) {g1 : L2.TG} {tt1 : TT} {te : TE} {vs1 : List Nat} {σ2 : L2.St} {H4 : Hp} {D : Addr} {Nx : Hp → Prop} (Pv : Nat → Hp → Prop) (h0 : Pv 0 H4) (hG : ∀ i H, i ≤ n → Pv i H → Gd H)
    (hs : ∀ i x H H', i < n → Pv i H → Y i H x H' → g1 x (wipe σ2 vs1) H' fun σ3 H5 => wipe σ3 vs1 = wipe σ2 vs1 ∧ tt1 σ3 H5 fun b H6 =>
      if b = true then te σ3 H6 fun y H7 => ∃ acc, H7 D = some (.lst acc) ∧ acc.length < sizeLine ∧ Pv (i + 1) (upd H7 D (.lst (acc ++ [y]))) else Pv (i + 1) H6) (hd : ∀ H, Pv n H → Nx H) :
    ∃ W1 : Nat → Nat → Hp → Prop, (∃ m, W1 0 m H4) ∧ ∀ j k H, W1 j k H →
      (J1.stop j H ∧ Nx H) ∨ (J1.go j H ∧ ∃ Nx1 : Hp → Prop, (∀ H', Nx1 H' → ∃ k', k' < k ∧ W1 (j + 1) k' H') ∧ ∀ x H', J1.yld j H x H' → g1 x (wipe σ2 vs1) H' fun σ3 H5 => wipe σ3 vs1 = wipe σ2 vs1 ∧ tt1 σ3 H5 fun b H6 =>
        if b = true then te σ3 H6 fun y H7 => ∃ acc, H7 D = some (.lst acc) ∧ acc.length < sizeLine ∧ Nx1 (upd H7 D (.lst (acc ++ [y]))) else Nx1 H6) := by
  refine ⟨fun i m H => m = n - i ∧ i ≤ n ∧ Pv i H, ⟨n, by simp, Nat.zero_le _, h0⟩, ?_⟩
  rintro i m H ⟨rfl, hi, p⟩
  have q := hG i H hi p
  by_cases hlt : i < n
  · refine .inr ⟨w.goes i H hlt q, Pv (i + 1), fun H' p' => ⟨n - (i + 1), by omega, rfl, hlt, p'⟩, fun x H' y => hs i x H H' hlt p (w.yields i H x H' hlt q y)⟩
  · have e : i = n := by omega
    subst e
    exact .inl ⟨w.stops H q, hd H p⟩
/-- the outer one: the turn's end is Pv (i + 1) -/
theorem lc2_out {J : It} {n : Nat} {Gd : Hp → Prop} {Y : Nat → Hp → V → Hp → Prop} (w : Walk J n Gd Y) {F : (Hp → Prop) → V → Hp → Prop} {H0 : Hp} {Qd : Hp → Prop} (Pv : Nat → Hp → Prop) (h0 : Pv 0 H0) (hG : ∀ i H, i ≤ n → Pv i H → Gd H)
    (hs : ∀ i x H H', i < n → Pv i H → Y i H x H' → F (Pv (i + 1)) x H') (hd : ∀ H, Pv n H → Qd H) :
    ∃ W : Nat → Nat → Hp → Prop, (∃ m, W 0 m H0) ∧ ∀ i m H, W i m H → (J.stop i H ∧ Qd H) ∨ (J.go i H ∧ ∃ Nx : Hp → Prop, (∀ H', Nx H' → ∃ m', m' < m ∧ W (i + 1) m' H') ∧ ∀ x H', J.yld i H x H' → F Nx x H') := by
  refine ⟨fun i m H => m = n - i ∧ i ≤ n ∧ Pv i H, ⟨n, by simp, Nat.zero_le _, h0⟩, ?_⟩
  rintro i m H ⟨rfl, hi, p⟩
  have q := hG i H hi p
  by_cases hlt : i < n
  · refine .inr ⟨w.goes i H hlt q, Pv (i + 1), fun H' p' => ⟨n - (i + 1), by omega, rfl, hlt, p'⟩, fun x H' y => hs i x H H' hlt p (w.yields i H x H' hlt q y)⟩
  · have e : i = n := by omega
    subst e
    exact .inl ⟨w.stops H q, hd H p⟩
end
theorem pi_or {X : Cx} {tg e : Expr} {t1 t2 : TI} (h1 : PI X tg e t1) (h2 : PI X tg e t2) : PI X tg e (fun σ H k => t1 σ H k ∨ t2 σ H k) := ⟨fun pins s σ H R I h => h.elim (h1.run pins s σ H R I) (h2.run pins s σ H R I)⟩
theorem dcT_it {J : It} {n : Nat} {Gd : Hp → Prop} {Y : Nat → Hp → V → Hp → Prop} (w : Walk J n Gd Y) {g : TG} {tt : TT} {tk tv : TE} {vs : List Nat} {σ : L2.St} {H1 : Hp} {D : Addr} {Qd : Hp → Prop} (Pv : Nat → Hp → Prop) (h0 : Pv 0 (upd H1 D (.dT []))) (hG : ∀ i H, i ≤ n → Pv i H → Gd H)
    (hs : ∀ i x H H', i < n → Pv i H → Y i H x H' → g x (wipe σ vs) H' fun σ2 H2 => wipe σ2 vs = wipe σ vs ∧ tt σ2 H2 fun b H3 =>
      if b = true then tk σ2 H3 fun y H4 => tv σ2 H4 fun z H5 => ∃ kvs k c, y = .ref c ∧ H5 c = some (.tup (k.map kV)) ∧ H5 D = some (.dT kvs) ∧ kvs.length < sizeLine ∧ Pv (i + 1) (upd H5 D (.dT (putK kvs k z))) else Pv (i + 1) H3) (hd : ∀ H, Pv n H → Qd H) :
    ∃ W : Nat → Nat → Hp → Prop, (∃ m, W 0 m (upd H1 D (.dT []))) ∧ ∀ i m H, W i m H →
      (J.stop i H ∧ Qd H) ∨ (J.go i H ∧ ∃ Nx : Hp → Prop, (∀ H', Nx H' → ∃ m', m' < m ∧ W (i + 1) m' H') ∧ ∀ x H', J.yld i H x H' → g x (wipe σ vs) H' fun σ2 H2 => wipe σ2 vs = wipe σ vs ∧ tt σ2 H2 fun b H3 =>
        if b = true then tk σ2 H3 fun y H4 => tv σ2 H4 fun z H5 => ∃ kvs k c, y = .ref c ∧ H5 c = some (.tup (k.map kV)) ∧ H5 D = some (.dT kvs) ∧ kvs.length < sizeLine ∧ Nx (upd H5 D (.dT (putK kvs k z))) else Nx H3) := by
  refine ⟨fun i m H => m = n - i ∧ i ≤ n ∧ Pv i H, ⟨n, by simp, Nat.zero_le _, h0⟩, ?_⟩
  rintro i m H ⟨rfl, hi, p⟩
  have q := hG i H hi p
  by_cases hlt : i < n
  · refine .inr ⟨w.goes i H hlt q, Pv (i + 1), fun H' p' => ⟨n - (i + 1), by omega, rfl, hlt, p'⟩, fun x H' y => hs i x H H' hlt p (w.yields i H x H' hlt q y)⟩
  · have e : i = n := by omega
    subst e
    exact .inl ⟨w.stops H q, hd H p⟩
section
variable {P : Program} {w : World} {K : PySem.W.Frag} {mg : Str → Option Value} {base : Heap} {a : Nat → Addr} {d : Nat → FuncData}
theorem take_fm {ds : List PyData} {i : Nat} {e : PyData} (h : ds[i]? = some e) : (ds.take (i + 1)).filterMap varI = (ds.take i).filterMap varI ++ (varI e).toList := by
  rw [take_snoc h, List.filterMap_append]
  cases hv : varI e with
  | none => rw [List.filterMap_cons_none hv]; rfl
  | some z => rw [List.filterMap_cons_some hv]; rfl
/-- what some variables are, each once -/
def VarsAt (H : Hp) (r : Addr) (ds : List PyData) : Prop := ∃ (bs : List Addr) (is : List Int), H r = some (.lst (bs.map V.ref)) ∧ Paired (fun b i => H b = some (.tup [.int i])) bs is ∧ (∀ i, i ∈ is ↔ .tuple [.int i] ∈ ds) ∧ bs.length ≤ ds.length
def spVars : Sp := fun vs H Q _ => ∃ (C : Addr → Prop) (n : Nat) (p : Addr) (xs : List V) (ds : List PyData), vs = [.ref p] ∧ (H p = some (.lst xs) ∨ H p = some (.tup xs)) ∧ Paired (DA C H n) xs ds ∧ (∀ d ∈ ds, termD d = true) ∧ xs.length ≤ 6000 ∧ ∀ r H', VarsAt H' r ds → Same H H' → Q (.ref r) H'
theorem ok_vars (T : Txt K mg a d) : FnOk P w K mg base CX0 1 (a 17) (d 17) ["terms"] spVars := by
  refine T.F17.ok sc_term_variables (fun vs H Q E h => ?_) (fun cdv A outer s H vs Q E hr h => ?_)
  · obtain ⟨C, n, p, xs, ds, rfl, _⟩ := h
    rfl
  · obtain ⟨C, n, p, xs, ds, rfl, hp, pr, ht, hl, q⟩ := h
    refine ⟨_, (pss_one (ps_ret (pe_callTy (T := "list")  (call_list_dT rfl) (by rfl) T.z_list (by decide +kernel) (pa_cons (DcT.pe_dcT (own := [("term", 1)]) (hu_of hr) rfl sc_term_variables.nd (pi_or (pi_list (pv 0)) (pi_tup (pv 0))) (blkOk_by (N := ["terms", "term"]) (sc := defScope s_term_variables) (by decide +kernel)) (fun _ _ _ _ _ => pg_name (i := 1) sc_term_variables.nd rfl (.inl rfl)) (fun _ _ _ _ _ => (pts_one (pt_val (pe_callB (id := "isinstance") (r := rIsi K)  call_isi (by rfl) T.z_isinstance (by decide +kernel) (pa_cons (pv 1) (pa_cons (pe_bltn (v := .ty "tuple") (by rfl) T.z_tuple (by decide +kernel) rfl) pa_nil)))))) (fun _ _ _ _ _ => (pv 1)) (fun _ _ _ _ _ => pe_bl)) pa_nil)))), ?_⟩
    have hlen := Paired.length pr
    -- the turn and the end, for a list or a tuple
    have h0 : ∀ D, H D = none → upd H D (.dT []) D = some (.dT ((uniq (((ds.take 0).filterMap varI).map fun i => [Sum.inl i])).map fun k => (k, V.bl true))) ∧ Same H (upd H D (.dT [])) := fun D hD => ⟨upd_same, same_upd hD⟩
    have ulen : ∀ i, i ≤ xs.length → ((uniq (((ds.take i).filterMap varI).map fun i => [Sum.inl i])).map fun k => (k, V.bl true)).length ≤ i := fun i hi => by
      rw [List.length_map]
      refine Nat.le_trans (uniq_len _) ?_
      rw [List.length_map]
      refine Nat.le_trans (List.length_filterMap_le ..) ?_
      rw [List.length_take]
      exact Nat.min_le_left ..
    have fin : ∀ D H1, H1 D = some (.dT ((uniq (((ds.take xs.length).filterMap varI).map fun i => [Sum.inl i])).map fun k => (k, V.bl true))) → Same H H1 → ∀ r bs, H1 r = none → IsKeys H1 ((uniq (((ds.take xs.length).filterMap varI).map fun i => [Sum.inl i])).map fun k => (k, V.bl true)) bs → Q (.ref r) (upd H1 r (.lst (bs.map V.ref))) := fun D H1 h1 s1 r bs hr hk => by
      have s2 := same_upd (o := .lst (bs.map V.ref)) hr
      rw [hlen, List.take_length] at hk
      obtain ⟨_, mem⟩ := uniq_all ((ds.filterMap varI).map fun i => ([Sum.inl i] : RowK))
      have hb : ∀ {us : List RowK} {bs : List Addr}, (∀ u ∈ us, ∃ i : Int, u = [Sum.inl i]) → Paired (fun (p : RowK × V) b => H1 b = some (.tup (p.1.map kV))) (us.map fun k => (k, V.bl true)) bs → ∃ is : List Int, us = is.map (fun i => [Sum.inl i]) ∧ Paired (fun b i => H1 b = some (.tup [.int i])) bs is := by
        intro us
        induction us with
        | nil =>
          intro bs _ h
          cases h
          exact ⟨[], rfl, .nil⟩
        | cons u us ih =>
          intro bs hu h
          cases h with
          | cons h1 h2 =>
            obtain ⟨i, rfl⟩ := hu u (by simp)
            obtain ⟨is, e1, e2⟩ := ih (fun u hu' => hu u (by simp [hu'])) h2
            exact ⟨i :: is, by rw [e1]; rfl, .cons h1 e2⟩
      obtain ⟨is, e1, e2⟩ := hb (fun u hu => by
        obtain ⟨i, _, e⟩ := List.mem_map.mp ((mem u).mp hu)
        exact ⟨i, e.symm⟩) hk
      refine q r _ ⟨bs, is, upd_same, paired_imp (fun _ _ h => s2 _ _ h) e2, fun i => ?_, ?_⟩ (s1.trans s2)
      · rw [← varI_mem]
        have h1 := mem [Sum.inl i]
        rw [e1] at h1
        constructor
        · intro h
          obtain ⟨j, hj, e⟩ := List.mem_map.mp (h1.mp (List.mem_map.mpr ⟨i, h, rfl⟩))
          cases e
          exact hj
        · intro h
          obtain ⟨j, hj, e⟩ := List.mem_map.mp (h1.mpr (List.mem_map.mpr ⟨i, h, rfl⟩))
          cases e
          exact hj
      · have h1 := Paired.length hk
        have h2 := ulen ds.length (by omega)
        rw [List.take_length] at h2
        rw [← h1]
        exact h2
    rcases hp with hp | hp
    · refine .inl ⟨_, rfl, p, rfl, ⟨_, .of hp⟩, fun D hD => ?_⟩
      refine dcT_it (walk_list (K := K) (a := p) (xs := xs)) (fun i H' => H' D = some (.dT ((uniq (((ds.take i).filterMap varI).map fun i => [Sum.inl i])).map fun k => (k, V.bl true))) ∧ Same H H') (h0 D hD) (fun i H' _ hp' => .of (hp'.2 _ _ hp)) (fun i x H' H'' hi hp' hy => ?_) (fun H' hp' => ?_)
      · obtain ⟨rfl, hx⟩ := hy
        obtain ⟨e, he, hxe⟩ := paired_at pr hx
        have hte := ht e (List.mem_of_getElem? he)
        have hx' := hxe.same hp'.2
        obtain ⟨nm, hty, k1, _⟩ := hx'.ty (K := K)
        refine ⟨rfl, _, rfl, _, _, _, _, _, rfl, .ty _, hty, kit_ty k1, _, rfl, ?_⟩
        have no : varI e = none → H'' D = some (.dT ((uniq (((ds.take (i + 1)).filterMap varI).map fun i => [Sum.inl i])).map fun k => (k, V.bl true))) ∧ Same H H'' := fun hv => by
          rw [take_fm he, hv]
          simpa using hp'
        cases e with
        | tuple es =>
          obtain ⟨z, rfl⟩ := term_tup hte
          obtain ⟨c, ys, k, rfl, rfl, _, hc, _, pc⟩ := hx'.asTup
          match ys, pc with
          | [y], .cons hy0 .nil =>
            have := hy0.asInt
            subst this
            refine ifT ⟨_, rfl, _, [Sum.inl z], c, rfl, hc, hp'.1, ?_, ?_, fun b o eb => ?_⟩
            · exact Nat.lt_of_le_of_lt (ulen i (Nat.le_of_lt hi)) (Nat.lt_of_lt_of_le hi (Nat.le_trans hl (by decide)))
            · rw [putK_uniq, take_fm he, List.map_append, show (varI (.tuple [.int z])).toList.map (fun i => ([Sum.inl i] : RowK)) = [[Sum.inl z]] from rfl, uniq_snoc]
              exact upd_same
            · rw [upd_ne (ne_of_none eb hD)]
              exact hp'.2 b o eb
        | none => exact ifF (no rfl)
        | bool b => exact ifF (no rfl)
        | int b => exact ifF (no rfl)
        | str b => exact ifF (no rfl)
        | list b => exact ifF (no rfl)
        | dict b => exact ifF (no rfl)
      · exact ⟨D, _, rfl, .inl hp'.1, fun r bs hr hk => fin D H' hp'.1 hp'.2 r bs hr hk⟩
    · refine .inr ⟨_, rfl, p, rfl, ⟨_, .of hp⟩, fun D hD => ?_⟩
      refine dcT_it (walk_tup (K := K) (a := p) (xs := xs)) (fun i H' => H' D = some (.dT ((uniq (((ds.take i).filterMap varI).map fun i => [Sum.inl i])).map fun k => (k, V.bl true))) ∧ Same H H') (h0 D hD) (fun i H' _ hp' => .of (hp'.2 _ _ hp)) (fun i x H' H'' hi hp' hy => ?_) (fun H' hp' => ?_)
      · obtain ⟨rfl, hx⟩ := hy
        obtain ⟨e, he, hxe⟩ := paired_at pr hx
        have hte := ht e (List.mem_of_getElem? he)
        have hx' := hxe.same hp'.2
        obtain ⟨nm, hty, k1, _⟩ := hx'.ty (K := K)
        refine ⟨rfl, _, rfl, _, _, _, _, _, rfl, .ty _, hty, kit_ty k1, _, rfl, ?_⟩
        have no : varI e = none → H'' D = some (.dT ((uniq (((ds.take (i + 1)).filterMap varI).map fun i => [Sum.inl i])).map fun k => (k, V.bl true))) ∧ Same H H'' := fun hv => by
          rw [take_fm he, hv]
          simpa using hp'
        cases e with
        | tuple es =>
          obtain ⟨z, rfl⟩ := term_tup hte
          obtain ⟨c, ys, k, rfl, rfl, _, hc, _, pc⟩ := hx'.asTup
          match ys, pc with
          | [y], .cons hy0 .nil =>
            have := hy0.asInt
            subst this
            refine ifT ⟨_, rfl, _, [Sum.inl z], c, rfl, hc, hp'.1, ?_, ?_, fun b o eb => ?_⟩
            · exact Nat.lt_of_le_of_lt (ulen i (Nat.le_of_lt hi)) (Nat.lt_of_lt_of_le hi (Nat.le_trans hl (by decide)))
            · rw [putK_uniq, take_fm he, List.map_append, show (varI (.tuple [.int z])).toList.map (fun i => ([Sum.inl i] : RowK)) = [[Sum.inl z]] from rfl, uniq_snoc]
              exact upd_same
            · rw [upd_ne (ne_of_none eb hD)]
              exact hp'.2 b o eb
        | none => exact ifF (no rfl)
        | bool b => exact ifF (no rfl)
        | int b => exact ifF (no rfl)
        | str b => exact ifF (no rfl)
        | list b => exact ifF (no rfl)
        | dict b => exact ifF (no rfl)
      · exact ⟨D, _, rfl, .inl hp'.1, fun r bs hr hk => fin D H' hp'.1 hp'.2 r bs hr hk⟩
end
section
variable {P : Program} {w : World} {K : PySem.W.Frag} {mg : Str → Option Value} {base : Heap} {a : Nat → Addr} {d : Nat → FuncData}
/-- atoms whose terms are terms, and not too many -/
def AtsOk (as : List PyData) : Prop := as.length ≤ 5 ∧ ∀ x ∈ as, atomD x = true ∧ (atTerms x).length ≤ 1000 ∧ ∀ t ∈ atTerms x, termD t = true
theorem atom_data {x : PyData} (h : atomD x = true) : ∃ n ts, x = .tuple [n, .tuple ts] := by
  unfold atomD at h
  split at h
  · exact ⟨_, _, rfl⟩
  · cases h
theorem fm_len {as : List PyData} (h : AtsOk as) : ∀ i, ((as.take i).flatMap atTerms).length ≤ 5000 := fun i => by
  have : ∀ l : List PyData, (∀ x ∈ l, (atTerms x).length ≤ 1000) → (l.flatMap atTerms).length ≤ 1000 * l.length := by
    intro l
    induction l with
    | nil => intro _; exact Nat.le_refl _
    | cons x l ih =>
      intro hx
      rw [List.flatMap_cons, List.length_append, List.length_cons]
      have h1 := hx x (by simp)
      have h2 := ih fun y hy => hx y (by simp [hy])
      omega
  have h1 := this (as.take i) fun x hx => (h.2 x (List.mem_of_mem_take hx)).2.1
  have h2 : (as.take i).length ≤ 5 := by rw [List.length_take]; have := h.1; omega
  omega
def spAVars : Sp := fun vs H Q _ => ∃ (C : Addr → Prop) (n : Nat) (v : V) (as : List PyData), vs = [v] ∧ DA C H n v (.list as) ∧ AtsOk as ∧ ∀ r H', VarsAt H' r (as.flatMap atTerms) → Same H H' → Q (.ref r) H'
theorem ok_avars (T : Txt K mg a d) : FnOk P w K mg base CX0 2 (a 18) (d 18) ["atoms"] spAVars := by
  have G17 : FnOk P w K mg base CX0 1 (a 17) (d 17) ["terms"] spVars := ok_vars T
  refine T.F18.ok sc_atom_variables (fun vs H Q E h => ?_) (fun cdv A outer s H vs Q E hr h => ?_)
  · obtain ⟨C, n, v, as, rfl, _⟩ := h
    rfl
  · obtain ⟨C, n, v, as, rfl, hv, hok, q⟩ := h
    obtain ⟨p, xs, k, rfl, rfl, _, hp, _, pr⟩ := hv.asLst
    refine ⟨_, (pss_one (ps_ret (pe_call G17 (hr.mono (by decide)) (by rfl) T.g17 T.F17.kp T.b17 .nil pass0 (pa_cons (pe_lc2 (own := [("_", 1), ("terms", 2), ("term", 3)]) (vs1 := [3]) rfl sc_atom_variables.nd (pi_list (pv 0)) (blkOk_by (N := ["atoms", "_", "terms", "term"]) (sc := defScope s_atom_variables) (by decide +kernel)) (by decide) (fun _ _ _ _ _ => pg_tupK (K := K) 2 rfl (by rfl) (pgs_cons (pg_name (i := 1) sc_atom_variables.nd rfl (.inl rfl)) (pgs_cons (pg_name (i := 2) sc_atom_variables.nd rfl (.inl rfl)) pgs_nil))) (fun _ _ _ _ _ => pts_nil) (fun _ _ _ _ _ => (pi_tupK (K := K) (by rfl) (pv 2))) (fun _ _ _ _ _ => (pg_name (i := 3) sc_atom_variables.nd rfl (.inl rfl))) (fun _ _ _ _ _ => pts_nil) (fun _ _ _ _ _ => (pv 3))) pa_nil)))), ?_⟩
    have hlen := Paired.length pr
    refine ⟨_, rfl, p, rfl, ⟨_, .of hp⟩, fun D hD => ?_⟩
    refine lc2_out (walk_list (K := K) (a := p) (xs := xs)) (fun i H' => ∃ ys, H' D = some (.lst ys) ∧ Paired (DA (fun x => C x ∨ x = D) H' k) ys ((as.take i).flatMap atTerms) ∧ Same H H') ⟨[], upd_same, .nil, same_upd hD⟩ (fun i H' _ hp' => ?_) (fun i x H' H'' hi hp' hy => ?_) (fun H' hp' => ?_)
    · obtain ⟨_, _, _, s⟩ := hp'
      exact .of (s _ _ hp)
    · obtain ⟨ys, d1, d2, s⟩ := hp'
      obtain ⟨rfl, hx⟩ := hy
      obtain ⟨e, he, hxe⟩ := paired_at pr hx
      obtain ⟨o1, o2, o3⟩ := hok.2 e (List.mem_of_getElem? he)
      obtain ⟨nm, ts, rfl⟩ := atom_data o1
      have hxe' := (hxe.fresh hD).same s
      obtain ⟨b, us, k', rfl, rfl, _, hb, _, pb⟩ := hxe'.asTup
      match us, pb with
      | [u, z], .cons hu (.cons hz .nil) =>
        obtain ⟨c, zs, k2, rfl, rfl, nc, hc, _, pc⟩ := hz.asTup
        refine ⟨b, _, rfl, .of hb, rfl, _, _, rfl, _, _, rfl, rfl, rfl, ?_⟩
        refine ⟨_, rfl, c, rfl, ⟨_, .of hc⟩, ?_⟩
        have sc : Same H H'' := s
        have lz := Paired.length pc
        have et : (as.take (i + 1)).flatMap atTerms = (as.take i).flatMap atTerms ++ ts := by
          rw [take_snoc he, List.flatMap_append]
          simp [atTerms]
        have f5 := fm_len hok (i + 1)
        rw [et, List.length_append] at f5
        refine lc2_in (walk_tup (K := K) (a := c) (xs := zs)) (fun j H3 => ∃ ys, H3 D = some (.lst ys) ∧ Paired (DA (fun x => C x ∨ x = D) H3 (k2 + 1 + 1)) ys ((as.take i).flatMap atTerms ++ ts.take j) ∧ ∀ b o, b ≠ D → H'' b = some o → H3 b = some o) ⟨ys, d1, by rw [List.take_zero, List.append_nil]; exact d2, fun _ _ _ e => e⟩ (fun j H3 _ hp' => ?_) (fun j v H3 H4 hj hp' hz' => ?_) (fun H3 hp' => ?_)
        · obtain ⟨_, _, _, o⟩ := hp'
          exact .of (o _ _ (fun e => nc (.inr e)) hc)
        · obtain ⟨ys, d1, d2, o⟩ := hp'
          obtain ⟨rfl, hv⟩ := hz'
          obtain ⟨f, hf, hvf⟩ := paired_at pc hv
          have lj : j < zs.length := hj
          have ly := Paired.length d2
          rw [List.length_append, List.length_take] at ly
          have kp : ∀ x o', ¬ (C x ∨ x = D) → H4 x = some o' → upd H4 D (.lst (ys ++ [v])) x = some o' := fun x o' hn e => by
            rw [upd_ne (fun e' => hn (.inr e'))]
            exact e
          have hvf4 : DA (fun x => C x ∨ x = D) H4 (k2 + 1 + 1) v f := (hvf.keep fun b o' hn e => o b o' (fun e' => hn (.inr e')) e).up (by omega)
          refine ⟨rfl, _, rfl, ys, d1, Nat.lt_of_le_of_lt (by omega : _ ≤ 5000) (by decide), ys ++ [v], upd_same, ?_, fun b o' n e => ?_⟩
          · rw [take_snoc hf, ← List.append_assoc]
            exact paired_app (paired_imp (fun _ _ h => h.keep kp) d2) (.cons (hvf4.keep kp) .nil)
          · rw [upd_ne n]
            exact o b o' n e
        · obtain ⟨ys, d1, d2, o⟩ := hp'
          refine ⟨ys, d1, ?_, fun b o' e => ?_⟩
          · rw [et]
            rw [lz, List.take_length] at d2
            exact d2
          · exact o b o' (ne_of_none e hD) (s _ _ e)
    · obtain ⟨ys, d1, d2, s⟩ := hp'
      rw [hlen, List.take_length] at d2
      have hl5 := fm_len hok as.length
      rw [List.take_length] at hl5
      have ly := Paired.length d2
      exact ⟨_, _, D, ys, as.flatMap atTerms, rfl, .inl d1, d2, (fun d hd => by
        obtain ⟨x, hx, hd⟩ := List.mem_flatMap.mp hd
        exact (hok.2 x hx).2.2 d hd), by omega, fun r H2 hr s2 => q r H2 hr (s.trans s2)⟩
end
section
variable {P : Program} {w : World} {K : PySem.W.Frag} {mg : Str → Option Value} {base : Heap} {a : Nat → Addr} {d : Nat → FuncData}
def spAreTerms : Sp := fun vs H Q _ => ∃ (C : Addr → Prop) (n : Nat) (v : V) (ds : List PyData) (m : Int), vs = [v, .int m] ∧ DA C H n v (.tuple ds) ∧ ∀ H', Same H H' → Q (.bl (termsD m ds)) H'
theorem ok_are_terms (T : Txt K mg a d) : FnOk P w K mg base CX0 4 (a 50) (d 50) ["terms", "many"] spAreTerms := by
  have G16 : FnOk P w K mg base CX0 3 (a 16) (d 16) ["thing"] (spDB termD) := ok_is_term T
  refine T.F50.ok sc__are_terms (fun vs H Q E h => ?_) (fun cdv A outer s H vs Q E hr h => ?_)
  · obtain ⟨C, n, v, ds, m, rfl, _⟩ := h
    rfl
  · obtain ⟨C, n, v, ds, m, rfl, hv, q⟩ := h
    obtain ⟨p, xs, k, rfl, rfl, _, hp, l5, pr⟩ := hv.asTup
    have hlen := Paired.length pr
    refine ⟨_, (pss_one (ps_ret (pe_and (pe_cmpR op_eq (pe_callB (id := "len")  call_len_seq (by rfl) T.z_len (by decide +kernel) (pa_cons (pv 0) pa_nil)) (pv 1) (nomark _)) (pe_one (pe_callB (id := "all")  (cr_all rfl) (by rfl) T.z_all (by decide +kernel) (pa_cons (pe_lc (own := [("term", 2)]) rfl sc__are_terms.nd (pi_tup (pv 0)) (blkOk_by (N := ["terms", "many", "term"]) (sc := defScope s__are_terms) (by decide +kernel)) (fun _ _ _ _ _ => pg_name (i := 2) sc__are_terms.nd rfl (.inl rfl)) (fun _ _ _ _ _ => pts_nil) (fun _ _ _ _ _ => (pe_call G16 (hr.mono (by decide)) (by rfl) T.g16 T.F16.kp T.b16 .nil pass0 (pa_cons (pv 2) pa_nil)))) pa_nil)))))), ?_⟩
    refine ⟨_, rfl, p, _, rfl, .inr (.of hp), _, rfl, rfl, _, rfl, ?_⟩
    unfold termsD at q
    refine ite_eqI (fun h => ?_) (fun h => ?_)
    · rw [show decide ((ds.length : Int) = m) = true from decide_eq_true (by omega)] at q
      refine ⟨_, rfl, p, rfl, ⟨_, .of hp⟩, fun D hD => ?_⟩
      refine lc_tup (K := K) (a := p) (xs := xs) (fun i H' => H' D = some (.lst (((ds.take i).map termD).map V.bl)) ∧ Same H H') ⟨upd_same, same_upd hD⟩ (fun i H' _ hp' => .of (hp'.2 _ _ hp)) (fun i y H' hy hp' => ?_) (fun H' hp' => ?_)
      · obtain ⟨e, he, hxe⟩ := paired_at pr hy
        refine ⟨rfl, _, rfl, C, k, y, e, rfl, hxe.same hp'.2, fun H3 s3 => ?_⟩
        refine ⟨_, s3 _ _ hp'.1, ?_, ?_, fun b o eb => ?_⟩
        · rw [List.length_map, List.length_map, List.length_take]
          exact Nat.lt_of_le_of_lt (by omega : _ ≤ 5000) (by decide)
        · rw [map_take he, List.map_append]
          exact upd_same
        · rw [upd_ne (ne_of_none eb hD)]
          exact s3 _ _ (hp'.2 b o eb)
      · obtain ⟨h1, h2⟩ := hp'
        rw [hlen, List.take_length] at h1
        refine ⟨D, _, rfl, .of h1, ?_⟩
        rw [show (ds.map termD).all id = ds.all termD by rw [List.all_map]; rfl]
        exact q H' h2
    · rw [show decide ((ds.length : Int) = m) = false from decide_eq_false (by omega)] at q
      exact q H (Same.refl H)
theorem ok_has_form (T : Txt K mg a d) : FnOk P w K mg base CX0 2 (a 49) (d 49) ["part"] (spDB formD) := by
  have G48 : FnOk P w K mg base CX0 1 (a 48) (d 48) ["thing"] (spDB atomD) := ok_is_atom T
  refine T.F49.ok sc__has_form (fun vs H Q E h => ?_) (fun cdv A outer s H vs Q E hr h => ?_)
  · obtain ⟨C, n, v, d, rfl, _⟩ := h
    rfl
  · obtain ⟨C, n, v, d, rfl, hv, q⟩ := h
    obtain ⟨t9, h_MOST_ATOMS⟩ := T.c_MOST_ATOMS
    obtain ⟨nm, hty, k1, _⟩ := hv.ty (K := K)
    refine ⟨_, (pss_cons (ps_if (PW.pt (pw_or (pt_not (pt_val (pe_callB (id := "isinstance")  call_isi (by rfl) T.z_isinstance (by decide +kernel) (pa_cons (pv 0) (pa_cons (pe_bltn (v := .ty "tuple") (by rfl) T.z_tuple (by decide +kernel) rfl) pa_nil))))) (pw_or1 (pt_cmpR op_ne (pe_callB (id := "len")  call_len_seq (by rfl) T.z_len (by decide +kernel) (pa_cons (pv 0) pa_nil)) pe_int (nomark _)))))
    (pss_one (ps_ret pe_bl))
    pss_nil)
  (pss_cons (ps_asg (pv 0) (pg_tup rfl (pgs_cons (pg_name (i := 1) sc__has_form.nd rfl (.inl rfl)) (pgs_cons (pg_name (i := 2) sc__has_form.nd rfl (.inl rfl)) pgs_nil))))
  (pss_cons (ps_if (PW.pt (pw_or (pt_not (pt_val (pe_callB (id := "isinstance")  call_isi (by rfl) T.z_isinstance (by decide +kernel) (pa_cons (pv 1) (pa_cons (pe_bltn (v := .ty "tuple") (by rfl) T.z_tuple (by decide +kernel) rfl) pa_nil))))) (pw_or (pt_not (pt_val (pe_callB (id := "isinstance")  call_isi (by rfl) T.z_isinstance (by decide +kernel) (pa_cons (pv 2) (pa_cons (pe_bltn (v := .ty "list") (by rfl) T.z_list (by decide +kernel) rfl) pa_nil))))) (pw_or1 (pt_cmpR op_gt (pe_callB (id := "len")  call_len_seq (by rfl) T.z_len (by decide +kernel) (pa_cons (pv 2) pa_nil)) (pe_glob (v := .int (5)) rfl h_MOST_ATOMS ⟨_, rfl⟩) (nomark _))))))
    (pss_one (ps_ret pe_bl))
    pss_nil)
  (pss_one (ps_ret (pe_callB (id := "all")  (cr_all rfl) (by rfl) T.z_all (by decide +kernel) (pa_cons (pe_lc (own := [("atom", 3)]) rfl sc__has_form.nd (pi_list (pv 2)) (blkOk_by (N := ["part", "head", "atoms", "atom"]) (sc := defScope s__has_form) (by decide +kernel)) (fun _ _ _ _ _ => pg_name (i := 3) sc__has_form.nd rfl (.inl rfl)) (fun _ _ _ _ _ => pts_nil) (fun _ _ _ _ _ => (pe_call G48 (hr.mono (by decide)) (by rfl) T.g48 T.F48.kp T.b48 .nil pass0 (pa_cons (pv 3) pa_nil)))) pa_nil))))))), ?_⟩
    refine ⟨_, rfl, _, _, _, _, _, rfl, .ty _, hty, kit_ty k1, _, rfl, ?_⟩
    cases d with
    | tuple ds =>
      obtain ⟨p, xs, k, rfl, rfl, _, hp, _, pr⟩ := hv.asTup
      have hl := Paired.length pr
      refine ifF ?_
      refine ⟨_, rfl, p, _, rfl, .inr (.of hp), rfl, _, rfl, ite_nd (fun h => ?_) (fun h => ?_)⟩
      · have q1 := q H (Same.refl H)
        rw [formD_len fun e => h (by rw [hl, e]; rfl)] at q1
        exact q1
      have h : xs.length = 2 := by have := V.int.inj h; omega
      match xs, ds, pr, h with
      | [x, y], [e, f], .cons hx (.cons hy .nil), _ =>
        refine ⟨_, rfl, p, _, rfl, .of hp, rfl, _, _, rfl, _, _, rfl, rfl, ?_⟩
        obtain ⟨nx, htx, kx, _⟩ := hx.ty (K := K)
        obtain ⟨ny, hty', _, ky, _⟩ := hy.ty (K := K)
        have no : formD (.tuple [e, f]) = false → Q (.bl false) H := fun h => by
          have q1 := q H (Same.refl H)
          rw [h] at q1
          exact q1
        refine ⟨_, rfl, _, _, _, _, _, rfl, .ty _, htx, kit_ty kx, _, rfl, ?_⟩
        cases e with
        | tuple hs =>
          refine ifF ⟨_, rfl, _, _, _, _, _, rfl, .ty _, hty', kit_ty ky, _, rfl, ?_⟩
          cases f with
          | list as =>
            obtain ⟨c, zs, k2, rfl, rfl, _, hc, l5, pc⟩ := hy.asLst
            have hlz := Paired.length pc
            have q : ∀ H', Same H H' → Q (.bl (decide (as.length ≤ 5) && as.all atomD)) H' := q
            refine ifF ⟨_, rfl, _, _, rfl, .inl (.of hc), _, _, rfl, rfl, _, rfl, ite_d (fun h5 => ?_) (fun h5 => ?_)⟩
            · have h5 : (5 : Int) < zs.length := h5
              rw [show decide (as.length ≤ 5) = false from decide_eq_false (by omega)] at q
              exact q H (Same.refl H)
            · have h5 : ¬ (5 : Int) < zs.length := h5
              rw [show decide (as.length ≤ 5) = true from decide_eq_true (by omega), Bool.true_and] at q
              refine ⟨_, rfl, c, rfl, ⟨_, .of hc⟩, fun D hD => ?_⟩
              refine lc_list (K := K) (a := c) (xs := zs) (fun i H' => H' D = some (.lst (((as.take i).map atomD).map V.bl)) ∧ Same H H') ⟨upd_same, same_upd hD⟩ (fun i H' _ hp' => .of (hp'.2 _ _ hc)) (fun i y H' hy hp' => ?_) (fun H' hp' => ?_)
              · obtain ⟨e, he, hxe⟩ := paired_at pc hy
                refine ⟨rfl, _, rfl, C, _, y, e, rfl, hxe.same hp'.2, fun H3 s3 => ?_⟩
                refine ⟨_, s3 _ _ hp'.1, ?_, ?_, fun b o eb => ?_⟩
                · rw [List.length_map, List.length_map, List.length_take]
                  exact Nat.lt_of_le_of_lt (by omega : _ ≤ 5000) (by decide)
                · rw [map_take he, List.map_append]
                  exact upd_same
                · rw [upd_ne (ne_of_none eb hD)]
                  exact s3 _ _ (hp'.2 b o eb)
              · obtain ⟨h1, h2⟩ := hp'
                rw [hlz, List.take_length] at h1
                refine ⟨D, _, rfl, .of h1, ?_⟩
                rw [show (as.map atomD).all id = as.all atomD by rw [List.all_map]; rfl]
                exact q H' h2
          | none => exact ifT (no rfl)
          | bool b => exact ifT (no rfl)
          | int b => exact ifT (no rfl)
          | str b => exact ifT (no rfl)
          | tuple b => exact ifT (no rfl)
          | dict b => exact ifT (no rfl)
        | none => exact ifT (no rfl)
        | bool b => exact ifT (no rfl)
        | int b => exact ifT (no rfl)
        | str b => exact ifT (no rfl)
        | list b => exact ifT (no rfl)
        | dict b => exact ifT (no rfl)
    | none => exact ifT (q H (Same.refl H))
    | bool b => exact ifT (q H (Same.refl H))
    | int b => exact ifT (q H (Same.refl H))
    | str b => exact ifT (q H (Same.refl H))
    | list b => exact ifT (q H (Same.refl H))
    | dict b => exact ifT (q H (Same.refl H))
end
abbrev tupI (i : Int) : PyData := .tuple [.int i]
theorem eqv_tupI {z : PyData} {i : Int} (hz : termD z = true) : PyData.eqv z (tupI i) = true ↔ z = tupI i := by
  cases z with
  | tuple ds =>
    obtain ⟨j, rfl⟩ := term_tup hz
    simp [tupI, PyData.eqv, PyData.eqvAll]
  | none => simp [tupI, PyData.eqv]
  | bool b => simp [tupI, PyData.eqv]
  | int b => simp [tupI, PyData.eqv]
  | str b => simp [tupI, PyData.eqv]
  | list b => simp [tupI, PyData.eqv]
  | dict b => simp [tupI, PyData.eqv]
theorem any_tupI {is : List Int} {i : Int} : ((is.map tupI).any fun z => PyData.eqv z (tupI i)) = decide (i ∈ is) := by
  induction is with
  | nil => rfl
  | cons j is ih =>
    rw [List.map_cons, List.any_cons, ih]
    by_cases e : j = i
    · subst e
      simp [tupI, PyData.eqv, PyData.eqvAll]
    · have e' : ¬ i = j := fun h => e h.symm
      simp [tupI, PyData.eqv, PyData.eqvAll, e, e']
theorem safe_eq {hs st : List PyData} {is js : List Int} (hh : ∀ d ∈ hs, termD d = true) (hst : ∀ d ∈ st, termD d = true) (h1 : ∀ i, i ∈ is ↔ tupI i ∈ hs) (h2 : ∀ i, i ∈ js ↔ tupI i ∈ st) :
    (hs.all fun x => !isTup x || st.any fun z => PyData.eqv z x) = (is.map fun i => decide (i ∈ js)).all id := by
  rw [Bool.eq_iff_iff, List.all_map, List.all_eq_true, List.all_eq_true]
  constructor
  · intro h i hi
    have hm := (h1 i).mp hi
    have h3 := h _ hm
    have h3 : (st.any fun z => PyData.eqv z (tupI i)) = true := h3
    obtain ⟨z, hz, e⟩ := List.any_eq_true.mp h3
    have ez := (eqv_tupI (hst z hz)).mp e
    subst ez
    exact decide_eq_true ((h2 i).mpr hz)
  · intro h x hx
    cases x with
    | tuple ds =>
      obtain ⟨i, rfl⟩ := term_tup (hh _ hx)
      have h3 : i ∈ js := of_decide_eq_true (h i ((h1 i).mpr hx))
      exact List.any_eq_true.mpr ⟨tupI i, (h2 i).mp h3, (eqv_tupI (hst _ ((h2 i).mp h3))).mpr rfl⟩
    | none => rfl
    | bool b => rfl
    | int b => rfl
    | str b => rfl
    | list b => rfl
    | dict b => rfl
theorem vars_dp {K : PySem.W.Frag} {H : Hp} {r : Addr} {bs : List Addr} {is : List Int} (h : H r = some (.lst (bs.map V.ref))) (p : Paired (fun b i => H b = some (.tup [.int i])) bs is) : Dp K H (.ref r) (.list (is.map tupI)) ∧ SeqAt.shaped (.list (is.map tupI)) = true := by
  have all : ∀ {bs : List Addr} {is : List Int}, Paired (fun b i => H b = some (.tup [.int i])) bs is → DpAll K H (bs.map V.ref) (is.map tupI) ∧ PyData.canLayAll0 (is.map tupI) = true ∧ PyData.depthAll (is.map tupI) ≤ 1 := by
    intro bs is h
    induction h with
    | nil => exact ⟨.nil, rfl, Nat.zero_le _⟩
    | cons h1 _ ih =>
      obtain ⟨i1, i2, i3⟩ := ih
      refine ⟨.cons (.tup (.of h1) (.cons (.int _) .nil)) i1, ?_, ?_⟩
      · simp only [List.map_cons, PyData.canLayAll0, i2, tupI, PyData.canLay0, Bool.and_self]
      · simp only [List.map_cons, PyData.depthAll, tupI, PyData.depth]
        omega
  obtain ⟨i1, i2, i3⟩ := all p
  refine ⟨.lst (.of h) i1, ?_⟩
  unfold SeqAt.shaped
  simp only [PyData.canLay0, i2, Bool.true_and, PyData.depth]
  exact decide_eq_true (by omega)
theorem form_data {d : PyData} (h : formD d = true) : ∃ hs as, d = .tuple [.tuple hs, .list as] ∧ as.length ≤ 5 ∧ ∀ x ∈ as, atomD x = true := by
  unfold formD at h
  split at h
  · rw [Bool.and_eq_true] at h
    exact ⟨_, _, rfl, of_decide_eq_true h.1, fun x hx => List.all_eq_true.mp h.2 x hx⟩
  · cases h
theorem name_data {ts : List (Str × Int)} {d : PyData} (h : nameD ts d = true) : ∃ s, d = .str s ∧ s ∈ ts.map (·.1) := by
  unfold nameD at h
  split at h
  · exact ⟨_, rfl, val_isy h⟩
  · cases h
theorem tab_get {ts : List (Str × Int)} {n : Nat} {m : Int} {s : Str} (hT : Tabs ts n m) (h : s ∈ ts.map (·.1)) : ∃ w, valV (tabK ts) (Sum.inr s) = some (.int w) ∧ widthAt ts s = w ∧ 1 ≤ w ∧ w ≤ m := by
  obtain ⟨b, hb, rfl⟩ := List.mem_map.mp h
  refine ⟨b.2, val_nodup (kvs := tabK ts) (by rw [keys_tab]; exact inr_nd hT.nm.nd) (Sum.inr b.1, V.int b.2) (List.mem_map.mpr ⟨b, hb, rfl⟩), widthAt_mem hT.nm.nd hb, hT.wd b hb⟩
section
variable {P : Program} {w : World} {K : PySem.W.Frag} {mg : Str → Option Value} {base : Heap} {a : Nat → Addr} {d : Nat → FuncData}
def faultV (s : Str) : V := if s = "" then .non else .str s
def spWrong : Sp := fun vs H Q _ => ∃ (C : Addr → Prop) (n : Nat) (t : Addr) (ts : List (Str × Int)) (m : Nat) (wi : Int) (v : V) (d : PyData), vs = [.ref t, .int wi, v] ∧ n ≤ 50 ∧ DctAt H t (tabK ts) ∧ Tabs ts m 4 ∧ DA C H n v d ∧ ∀ H', Same H H' → Q (faultV (faultD ts wi d)) H'
theorem ok_wrong (T : Txt K mg a d) : FnOk P w K mg base CX0 5 (a 51) (d 51) ["tables", "width", "part"] spWrong := by
  have G49 : FnOk P w K mg base CX0 2 (a 49) (d 49) ["part"] (spDB formD) := ok_has_form T
  have G50 : FnOk P w K mg base CX0 4 (a 50) (d 50) ["terms", "many"] spAreTerms := ok_are_terms T
  have G18 : FnOk P w K mg base CX0 2 (a 18) (d 18) ["atoms"] spAVars := ok_avars T
  have G17 : FnOk P w K mg base CX0 1 (a 17) (d 17) ["terms"] spVars := ok_vars T
  refine T.F51.ok sc__wrong_part (fun vs H Q E h => ?_) (fun cdv A outer s H vs Q E hr h => ?_)
  · obtain ⟨C, n, t, ts, m, wi, v, d, rfl, _⟩ := h
    rfl
  · obtain ⟨C, n, t, ts, m, wi, v, d, rfl, hn50, ht, hT, hv, q⟩ := h
    have hu := hu_of hr
    refine ⟨_, (pss_cons (ps_if (pt_not (pt_val (pe_call G49 (hr.mono (by decide)) (by rfl) T.g49 T.F49.kp T.b49 .nil pass0 (pa_cons (pv 2) pa_nil))))
    (pss_one (ps_ret pe_str))
    pss_nil)
  (pss_cons (ps_asg (pv 2) (pg_tup rfl (pgs_cons (pg_name (i := 3) sc__wrong_part.nd rfl (.inl rfl)) (pgs_cons (pg_name (i := 4) sc__wrong_part.nd rfl (.inl rfl)) pgs_nil))))
  (pss_cons (ps_if (pt_not (pt_val (pe_call G50 (hr.mono (by decide)) (by rfl) T.g50 T.F50.kp T.b50 .nil pass0 (pa_cons (pv 3) (pa_cons (pv 1) pa_nil)))))
    (pss_one (ps_ret pe_str))
    pss_nil)
  (pss_cons (ps_if (pt_not (pt_val (pe_callB (id := "all")  (cr_all rfl) (by rfl) T.z_all (by decide +kernel) (pa_cons (pe_lc (own := [("name", 6), ("_", 7)]) rfl sc__wrong_part.nd (pi_list (pv 4)) (blkOk_by (N := ["tables", "width", "part", "head", "atoms", "bound", "name", "_", "terms", "variable"]) (sc := defScope s__wrong_part) (by decide +kernel)) (fun _ _ _ _ _ => pg_tupK (K := K) 2 rfl (by rfl) (pgs_cons (pg_name (i := 6) sc__wrong_part.nd rfl (.inl rfl)) (pgs_cons (pg_name (i := 7) sc__wrong_part.nd rfl (.inl rfl)) pgs_nil))) (fun _ _ _ _ _ => pts_nil) (fun _ _ _ _ _ => (pe_and (pe_callB (id := "isinstance") (r := rIsi K)  call_isi (by rfl) T.z_isinstance (by decide +kernel) (pa_cons (pv 6) (pa_cons (pe_bltn (v := .ty "str") (by rfl) T.z_str (by decide +kernel) rfl) pa_nil))) (pe_one (pe_cmp (pc_din (hu_of hr) (pv 6) (pv 0)) rfl))))) pa_nil))))
    (pss_one (ps_ret pe_str))
    pss_nil)
  (pss_cons (ps_if (pt_not (pt_val (pe_callB (id := "all")  (cr_all rfl) (by rfl) T.z_all (by decide +kernel) (pa_cons (pe_lc (own := [("name", 6), ("terms", 8)]) rfl sc__wrong_part.nd (pi_list (pv 4)) (blkOk_by (N := ["tables", "width", "part", "head", "atoms", "bound", "name", "_", "terms", "variable"]) (sc := defScope s__wrong_part) (by decide +kernel)) (fun _ _ _ _ _ => pg_tupK (K := K) 2 rfl (by rfl) (pgs_cons (pg_name (i := 6) sc__wrong_part.nd rfl (.inl rfl)) (pgs_cons (pg_name (i := 8) sc__wrong_part.nd rfl (.inl rfl)) pgs_nil))) (fun _ _ _ _ _ => pts_nil) (fun _ _ _ _ _ => (pe_call G50 (hr.mono (by decide)) (by rfl) T.g50 T.F50.kp T.b50 .nil pass0 (pa_cons (pv 8) (pa_cons (pe_dget (hu_of hr) (pv 0) (pv 6) (fun _ _ => rfl)) pa_nil))))) pa_nil))))
    (pss_one (ps_ret pe_str))
    pss_nil)
  (pss_cons (ps_set (i := 5) sc__wrong_part.nd rfl (.inr rfl) (pe_call G18 (hr.mono (by decide)) (by rfl) T.g18 T.F18.kp T.b18 .nil pass0 (pa_cons (pv 4) pa_nil)))
  (pss_one (ps_ret (pe_ifExp (pt_val (pe_callB (id := "all")  (cr_all rfl) (by rfl) T.z_all (by decide +kernel) (pa_cons (pe_lc (own := [("variable", 9)]) rfl sc__wrong_part.nd (pi_list (pe_call G17 (hr.mono (by decide)) (by rfl) T.g17 T.F17.kp T.b17 .nil pass0 (pa_cons (pv 3) pa_nil))) (blkOk_by (N := ["tables", "width", "part", "head", "atoms", "bound", "name", "_", "terms", "variable"]) (sc := defScope s__wrong_part) (by decide +kernel)) (fun _ _ _ _ _ => pg_name (i := 9) sc__wrong_part.nd rfl (.inl rfl)) (fun _ _ _ _ _ => pts_nil) (fun _ _ _ _ _ => (pe_cmpR (r := rInD K) (op_inD (hu_of65 hr)) (pv 9) (pv 5) (by rfl)))) pa_nil))) pe_non pe_str))))))))), ?_⟩
    refine ⟨_, rfl, C, n, v, d, rfl, hv, fun H1 s1 => ⟨_, rfl, ?_⟩⟩
    cases ef : formD d with
    | false =>
      refine ifT ?_
      have q1 := q H1 s1
      unfold faultD at q1
      rw [if_pos ef] at q1
      exact q1
    | true =>
    refine ifF ?_
    obtain ⟨hs, as, rfl, a5, hat⟩ := form_data ef
    unfold faultD at q
    rw [if_neg (by rw [ef]; decide)] at q
    obtain ⟨p, xs, k, rfl, rfl, _, hp, _, pr⟩ := (hv.same s1).asTup
    match xs, pr with
    | [x, y], .cons hx (.cons hy .nil) =>
    refine ⟨_, rfl, p, _, rfl, .of hp, rfl, _, _, rfl, _, _, rfl, rfl, ?_⟩
    refine ⟨_, rfl, _, rfl, C, k, x, hs, wi, rfl, hx, fun H2 s2 => ⟨_, rfl, ?_⟩⟩
    have s12 := s1.trans s2
    cases eh : termsD wi hs with
    | false =>
      refine ifT ?_
      have q1 := q H2 s12
      rw [if_pos (show termsD wi (headOf (.tuple [.tuple hs, .list as])) = false from eh)] at q1
      exact q1
    | true =>
    refine ifF ?_
    rw [if_neg (show ¬ termsD wi (headOf (.tuple [.tuple hs, .list as])) = false by show ¬ termsD wi hs = false; rw [eh]; decide)] at q
    have hy2 := hy.same s2
    obtain ⟨c, zs, k2, rfl, rfl, nC, hc, l5, pc⟩ := hy2.asLst
    have hlz := Paired.length pc
    have ht2 := ht.same s12
    have ndk : ((tabK ts).map (·.1)).Nodup := by rw [keys_tab]; exact inr_nd hT.nm.nd
    -- the names
    refine ⟨_, rfl, c, rfl, ⟨_, .of hc⟩, fun D hD => ?_⟩
    refine lc_list (K := K) (a := c) (xs := zs) (fun i H' => H' D = some (.lst (((as.take i).map fun x => nameD ts (atName x)).map V.bl)) ∧ Same H2 H') ⟨upd_same, same_upd hD⟩ (fun i H' _ hp' => .of (hp'.2 _ _ hc)) (fun i z H' hz hp' => ?_) (fun H3 hp' => ?_)
    · obtain ⟨e, he, hze⟩ := paired_at pc hz
      have li : i < zs.length := (List.getElem?_eq_some_iff.mp hz).1
      obtain ⟨nmD, tsD, rfl⟩ := atom_data (hat e (List.mem_of_getElem? he))
      obtain ⟨b, us, k', rfl, rfl, _, hb, _, pb⟩ := (hze.same hp'.2).asTup
      match us, pb with
      | [u, y], .cons hu' (.cons hy' .nil) =>
      obtain ⟨nu, htu, _, _, ku, _⟩ := hu'.ty (K := K)
      refine ⟨b, _, rfl, .of hb, rfl, _, _, rfl, _, _, rfl, rfl, rfl, ?_⟩
      have fin : ∀ bv, bv = nameD ts nmD → H' D = some (.lst (((as.take i).map fun x => nameD ts (atName x)).map V.bl)) ∧ (((as.take i).map fun x => nameD ts (atName x)).map V.bl).length < sizeLine ∧ upd H' D (.lst (((as.take i).map fun x => nameD ts (atName x)).map V.bl ++ [.bl bv])) D = some (.lst (((as.take (i + 1)).map fun x => nameD ts (atName x)).map V.bl)) ∧ Same H2 (upd H' D (.lst (((as.take i).map fun x => nameD ts (atName x)).map V.bl ++ [.bl bv]))) := fun bv eb => by
        refine ⟨hp'.1, ?_, ?_, fun x o ex => ?_⟩
        · rw [List.length_map, List.length_map, List.length_take]
          exact Nat.lt_of_le_of_lt (by omega : _ ≤ 5000) (by decide)
        · rw [map_take he, List.map_append, eb]
          exact upd_same
        · rw [upd_ne (ne_of_none ex hD)]
          exact hp'.2 x o ex
      refine ⟨_, rfl, _, _, _, _, _, rfl, .ty _, htu, kit_ty ku, _, rfl, ?_⟩
      cases nmD with
      | str s =>
        obtain ⟨rfl, _⟩ := hu'.asStr
        exact ifT ⟨_, rfl, _, rfl, t, _, rfl, (ht2.same hp'.2).get ndk (Sum.inr s), _, fin _ rfl⟩
      | none => exact ifF ⟨_, fin _ rfl⟩
      | bool b => exact ifF ⟨_, fin _ rfl⟩
      | int b => exact ifF ⟨_, fin _ rfl⟩
      | tuple b => exact ifF ⟨_, fin _ rfl⟩
      | list b => exact ifF ⟨_, fin _ rfl⟩
      | dict b => exact ifF ⟨_, fin _ rfl⟩
    obtain ⟨h1, s3⟩ := hp'
    rw [hlz, List.take_length] at h1
    refine ⟨D, _, rfl, .of h1, _, rfl, ?_⟩
    rw [show (as.map fun x => nameD ts (atName x)).all id = as.all fun x => nameD ts (atName x) by rw [List.all_map]; rfl]
    have s13 := s12.trans s3
    clear h1 hD
    cases en : (as.all fun x => nameD ts (atName x)) with
    | false =>
      refine ifT ?_
      have q1 := q H3 s13
      rw [if_pos (show ((atomsOf (.tuple [.tuple hs, .list as])).all fun x => nameD ts (atName x)) = false from en)] at q1
      exact q1
    | true =>
    refine ifF ?_
    rw [if_neg (show ¬ ((atomsOf (.tuple [.tuple hs, .list as])).all fun x => nameD ts (atName x)) = false by show ¬ (as.all fun x => nameD ts (atName x)) = false; rw [en]; decide)] at q
    have hn : ∀ x ∈ as, nameD ts (atName x) = true := fun x hx => List.all_eq_true.mp en x hx
    have pc3 := paired_imp (fun _ _ h => DA.same h s3) pc
    have hc3 := s3 _ _ hc
    have ht3 := ht2.same s3
    clear pc hc
    -- the terms
    refine ⟨_, rfl, c, rfl, ⟨_, .of hc3⟩, fun D hD => ?_⟩
    refine lc_list (K := K) (a := c) (xs := zs) (fun i H' => H' D = some (.lst (((as.take i).map fun x => termsD (wdD ts (atName x)) (atTerms x)).map V.bl)) ∧ Same H3 H') ⟨upd_same, same_upd hD⟩ (fun i H' _ hp' => .of (hp'.2 _ _ hc3)) (fun i z H' hz hp' => ?_) (fun H4 hp' => ?_)
    · obtain ⟨e, he, hze⟩ := paired_at pc3 hz
      have li : i < zs.length := (List.getElem?_eq_some_iff.mp hz).1
      have hem := List.mem_of_getElem? he
      obtain ⟨nmD, tsD, rfl⟩ := atom_data (hat e hem)
      obtain ⟨s0, e0, hs0⟩ := name_data (hn _ hem)
      have e0 : nmD = .str s0 := e0
      subst e0
      obtain ⟨w0, v0, wa, _, _⟩ := tab_get hT hs0
      obtain ⟨b, us, k', rfl, rfl, _, hb, _, pb⟩ := (hze.same hp'.2).asTup
      match us, pb with
      | [u, y], .cons hu' (.cons hy' .nil) =>
      obtain ⟨rfl, _⟩ := hu'.asStr
      refine ⟨b, _, rfl, .of hb, rfl, _, _, rfl, _, _, rfl, rfl, rfl, ?_⟩
      have g := (ht3.same hp'.2).get ndk (Sum.inr s0)
      rw [v0] at g
      refine ⟨_, rfl, _, rfl, _, rfl, t, _, rfl, g, C, k', y, tsD, w0, rfl, hy', fun H5 s5 => ?_⟩
      refine ⟨_, s5 _ _ hp'.1, ?_, ?_, fun x o ex => ?_⟩
      · rw [List.length_map, List.length_map, List.length_take]
        exact Nat.lt_of_le_of_lt (by omega : _ ≤ 5000) (by decide)
      · rw [map_take he, List.map_append, show termsD (wdD ts (atName (.tuple [.str s0, .tuple tsD]))) (atTerms (.tuple [.str s0, .tuple tsD])) = termsD w0 tsD by show termsD (widthAt ts s0) tsD = _; rw [wa]]
        exact upd_same
      · rw [upd_ne (ne_of_none ex hD)]
        exact s5 _ _ (hp'.2 x o ex)
    obtain ⟨h1, s4⟩ := hp'
    rw [hlz, List.take_length] at h1
    refine ⟨D, _, rfl, .of h1, _, rfl, ?_⟩
    rw [show (as.map fun x => termsD (wdD ts (atName x)) (atTerms x)).all id = as.all fun x => termsD (wdD ts (atName x)) (atTerms x) by rw [List.all_map]; rfl]
    have s14 := s13.trans s4
    clear h1 hD
    cases et : (as.all fun x => termsD (wdD ts (atName x)) (atTerms x)) with
    | false =>
      refine ifT ?_
      have q1 := q H4 s14
      rw [if_pos (show ((atomsOf (.tuple [.tuple hs, .list as])).all fun x => termsD (wdD ts (atName x)) (atTerms x)) = false from et)] at q1
      exact q1
    | true =>
    refine ifF ?_
    rw [if_neg (show ¬ ((atomsOf (.tuple [.tuple hs, .list as])).all fun x => termsD (wdD ts (atName x)) (atTerms x)) = false by show ¬ (as.all fun x => termsD (wdD ts (atName x)) (atTerms x)) = false; rw [et]; decide)] at q
    have hts : ∀ x ∈ as, (atTerms x).length ≤ 4 ∧ ∀ y ∈ atTerms x, termD y = true := fun x hx => by
      have h1 := List.all_eq_true.mp et x hx
      obtain ⟨s0, e0, hs0⟩ := name_data (hn x hx)
      obtain ⟨w0, v0, wa, _, w4⟩ := tab_get hT hs0
      unfold termsD at h1
      rw [Bool.and_eq_true, e0] at h1
      have h2 := of_decide_eq_true h1.1
      have h2 : ((atTerms x).length : Int) = widthAt ts s0 := h2
      exact ⟨by omega, fun y hy => List.all_eq_true.mp h1.2 y hy⟩
    have aok : AtsOk as := ⟨a5, fun x hx => ⟨hat x hx, by have := (hts x hx).1; omega, (hts x hx).2⟩⟩
    have hd : ∀ y ∈ hs, termD y = true := by
      unfold termsD at eh
      rw [Bool.and_eq_true] at eh
      exact fun y hy => List.all_eq_true.mp eh.2 y hy
    have s24 := s3.trans s4
    refine ⟨_, rfl, C, _, _, as, rfl, DA.same hy2 s24, aok, fun r H5 hr5 s5 => ?_⟩
    have hx5 := hx.same ((s2.trans s24).trans s5)
    obtain ⟨g, gs, k3, ek, rfl, _, hg, g5, pg⟩ := hx5.asTup
    refine ⟨_, rfl, C, _, g, gs, hs, rfl, .inr hg, pg, hd, by omega, fun r2 H6 hr6 s6 => ?_⟩
    obtain ⟨bs, is, r1, r2', r3, r4⟩ := hr6
    obtain ⟨bs5, is5, t1, t2, t3, t4⟩ := hr5
    have hls := Paired.length r2'
    have lhs : hs.length ≤ 5000 := by rw [← Paired.length pg]; exact g5
    refine ⟨r2, rfl, ⟨_, .of r1⟩, fun D hD => ?_⟩
    refine lc_list (K := K) (a := r2) (xs := bs.map V.ref) (fun i H' => H' D = some (.lst (((is.take i).map fun i => decide (i ∈ is5)).map V.bl)) ∧ Same H6 H') ⟨upd_same, same_upd hD⟩ (fun i H' _ hp' => .of (hp'.2 _ _ r1)) (fun i z H' hz hp' => ?_) (fun H7 hp' => ?_)
    · obtain ⟨b, hb, rfl⟩ := map_at hz
      have li : i < bs.length := (List.getElem?_eq_some_iff.mp hb).1
      obtain ⟨iz, hiz, hbz⟩ := paired_at r2' hb
      have hb7 := hp'.2 _ _ hbz
      obtain ⟨dp, sh⟩ := vars_dp (K := K) (hp'.2 _ _ (s6 _ _ t1)) (paired_imp (fun _ _ h => hp'.2 _ _ (s6 _ _ h)) t2)
      refine ⟨rfl, _, rfl, _, rfl, tupI iz, _, .tup (.of hb7) (.cons (.int iz) .nil), dp, by show SeqAt.shaped (.tuple [.int iz]) = true; simp [SeqAt.shaped, PyData.canLay0, PyData.canLayAll0, PyData.depth, PyData.depthAll], sh, ?_⟩
      rw [any_tupI]
      refine ⟨_, hp'.1, ?_, ?_, fun x o ex => ?_⟩
      · rw [List.length_map, List.length_map, List.length_take]
        exact Nat.lt_of_le_of_lt (by omega : _ ≤ 5000) (by decide)
      · rw [map_take hiz, List.map_append]
        exact upd_same
      · rw [upd_ne (ne_of_none ex hD)]
        exact hp'.2 x o ex
    obtain ⟨h1, s7⟩ := hp'
    rw [List.length_map, hls, List.take_length] at h1
    refine ⟨D, _, rfl, .of h1, _, rfl, ?_⟩
    have es : safeD (.tuple [.tuple hs, .list as]) = (is.map fun i => decide (i ∈ is5)).all id := safe_eq hd (fun y hy => by
      have hy : y ∈ as.flatMap atTerms := hy
      obtain ⟨x, hx, hy⟩ := List.mem_flatMap.mp hy
      exact (hts x hx).2 y hy) r3 t3
    have s17 := (((s14.trans s5).trans s6).trans s7)
    rw [← es]
    have q1 := q H7 s17
    cases e : safeD (.tuple [.tuple hs, .list as]) with
    | true =>
      rw [e, if_neg (by decide)] at q1
      exact ifT q1
    | false =>
      rw [e, if_pos rfl] at q1
      exact ifF q1
end
theorem in_empty : ∀ cs : List Nat, inV (.str "") (cs.map fun c => V.str (if okC c = true then ⟨#[c]⟩ else "")) = !cs.all okC
  | [] => rfl
  | c :: cs => by
    have ih := in_empty cs
    have e1 : inV (.str "") ((c :: cs).map fun c => V.str (if okC c = true then ⟨#[c]⟩ else "")) = (eqV (V.str (if okC c = true then ⟨#[c]⟩ else "")) (.str "") || inV (.str "") (cs.map fun c => V.str (if okC c = true then ⟨#[c]⟩ else ""))) := rfl
    rw [e1, ih, List.all_cons]
    cases h : okC c with
    | true =>
      rw [if_pos rfl]
      have e2 : eqV (V.str ⟨#[c]⟩) (.str "") = false := by
        show ((⟨#[c]⟩ : Str) == ("" : Str)) = false
        refine beq_false_of_ne fun e => ?_
        have h1 := congrArg (fun s : Str => s.cps.size) e
        have h2 : (1 : Nat) = ("" : Str).cps.size := h1
        exact absurd h2 (by decide +kernel)
      rw [e2]
      rfl
    | false =>
      rw [if_neg (by decide)]
      rfl
section
variable {P : Program} {w : World} {K : PySem.W.Frag} {mg : Str → Option Value} {base : Heap} {a : Nat → Addr} {d : Nat → FuncData}
theorem ok_lis_value (T : Txt K mg a d) : FnOk P w K mg base CX0 1 (a 65) (d 65) ["_law_thing"] (spDB valD) := by
  refine T.F65.ok sc__law_is_value (fun vs H Q E h => ?_) (fun cdv A outer s H vs Q E hr h => ?_)
  · obtain ⟨C, n, v, d, rfl, _⟩ := h
    rfl
  · obtain ⟨C, n, v, d, rfl, hv, q⟩ := h
    obtain ⟨nm, hty, kt, kl, ks, ki, kb⟩ := hv.ty (K := K)
    refine ⟨_, (pss_cons (ps_if (pt_val (pe_callB (id := "isinstance")  call_isi (by rfl) T.z_isinstance (by decide +kernel) (pa_cons (pv 0) (pa_cons (pe_bltn (v := .ty "str") (by rfl) T.z_str (by decide +kernel) rfl) pa_nil))))
    (pss_one (ps_ret (pe_and (pe_chain op_le op_le pe_int (pe_callB (id := "len")  call_len_str (by rfl) T.z_len (by decide +kernel) (pa_cons (pv 0) pa_nil)) pe_int) (pe_one (pe_cmpR op_notIn_seq pe_str (pe_lc (own := [("_law_sign", 1)]) rfl sc__law_is_value.nd (pi_str (pv 0)) (blkOk_by (N := ["_law_thing", "_law_sign"]) (sc := defScope s__law_is_value) (by decide +kernel)) (fun _ _ _ _ _ => pg_name (i := 1) sc__law_is_value.nd rfl (.inl rfl)) (fun _ _ _ _ _ => pts_nil) (fun _ _ _ _ _ => (pe_ifExp (pt_chain op_le_str op_le_str pe_str (pv 1) pe_str) (pv 1) pe_str))) (by rfl))))))
    pss_nil)
  (pss_one (ps_ret (pe_and (pe_callB (id := "isinstance")  call_isi (by rfl) T.z_isinstance (by decide +kernel) (pa_cons (pv 0) (pa_cons (pe_bltn (v := .ty "int") (by rfl) T.z_int (by decide +kernel) rfl) pa_nil))) (pe_and (pe_not (pe_callB (id := "isinstance")  call_isi (by rfl) T.z_isinstance (by decide +kernel) (pa_cons (pv 0) (pa_cons (pe_bltn (v := .ty "bool") (by rfl) T.z_bool (by decide +kernel) rfl) pa_nil)))) (pe_one (pe_cmpR op_lt (pe_callB (id := "abs")  call_abs (by rfl) T.z_abs (by decide +kernel) (pa_cons (pv 0) pa_nil)) (pe_op op_pow pe_int pe_int) (nomark _)))))))), ?_⟩
    refine ⟨_, rfl, _, _, _, _, _, rfl, .ty _, hty, kit_ty ks, _, rfl, ?_⟩
    cases d with
    | str s =>
      obtain ⟨rfl, hl, hc⟩ := hv.asStr
      refine ifT ?_
      have q : ∀ H', Same H H' → Q (.bl (decide (1 ≤ s.length ∧ s.length ≤ 8) && s.cps.toList.all okC)) H' := q
      have bad : ¬ (1 ≤ s.length ∧ s.length ≤ 8) → Q (.bl false) H := fun h => by
        have q1 := q H (Same.refl H)
        rw [decide_eq_false h] at q1
        exact q1
      refine ⟨_, rfl, _, rfl, small1000' hl, _, _, rfl, rfl, _, rfl, ite_d (fun h1 => ?_) (fun h1 => ?_)⟩
      · refine ⟨_, _, rfl, rfl, _, rfl, ite_d (fun h2 => ?_) (fun h2 => ?_)⟩
        · have e : decide (1 ≤ s.length ∧ s.length ≤ 8) = true := decide_eq_true (by omega)
          rw [e, Bool.true_and] at q
          refine ⟨_, rfl, _, rfl, fun D hD => ?_⟩
          refine lc_str (fun i H' => H' D = some (.lst ((s.cps.toList.take i).map fun c => V.str (if okC c = true then ⟨#[c]⟩ else ""))) ∧ Same H H') ⟨upd_same, same_upd hD⟩ (fun i c H' hx hp => ?_) (fun H' hp => ?_)
          · have hx' : s.cps.toList[i]? = some c := by rw [Array.getElem?_toList]; exact hx
            have li : i < s.cps.toList.length := (List.getElem?_eq_some_iff.mp hx').1
            have hsz : ((s.cps.toList.take i).map fun c => V.str (if okC c = true then ⟨#[c]⟩ else "")).length < sizeLine := by
              rw [List.length_map, List.length_take]
              have h5 : s.cps.toList.length = s.length := Array.length_toList
              exact small1000 (by omega)
            have step : ∀ z, z = (if okC c = true then (⟨#[c]⟩ : Str) else "") → (upd H' D (.lst ((s.cps.toList.take i).map (fun c => V.str (if okC c = true then ⟨#[c]⟩ else "")) ++ [.str z]))) D = some (.lst ((s.cps.toList.take (i + 1)).map fun c => V.str (if okC c = true then ⟨#[c]⟩ else ""))) ∧ Same H (upd H' D (.lst ((s.cps.toList.take i).map (fun c => V.str (if okC c = true then ⟨#[c]⟩ else "")) ++ [.str z]))) := fun z ez => by
              refine ⟨?_, fun x o ex => ?_⟩
              · rw [map_take hx', ← ez]
                exact upd_same
              · rw [upd_ne (ne_of_none ex hD)]
                exact hp.2 x o ex
            have e0 : ("a" : Str).cps.toList = [97] := by decide +kernel
            have e9 : ("z" : Str).cps.toList = [122] := by decide +kernel
            have eo := sgn_le (c := c)
            refine ⟨rfl, ?_⟩
            refine ⟨_, rfl, _, _, rfl, rfl, _, rfl, ?_⟩
            refine ite_nd (fun h3 => ?_) (fun h3 => ?_)
            · rw [e0] at h3
              have h3' : ¬ ([c] : List Nat) < [97] := h3
              rw [decide_eq_false h3'] at eo
              refine ⟨_, _, rfl, rfl, ?_⟩
              rw [e9]
              have eo : (!decide (([122] : List Nat) < [c])) = okC c := eo
              refine ⟨_, rfl, ?_⟩
              rw [eo]
              cases ec : okC c with
              | true => exact ifT ⟨_, rfl, _, hp.1, hsz, step _ (by rw [ec, if_pos rfl])⟩
              | false => exact ifF ⟨_, hp.1, hsz, step _ (by rw [ec, if_neg (by decide)])⟩
            · rw [e0] at h3
              have h3' : ([c] : List Nat) < [97] := h3
              rw [decide_eq_true h3'] at eo
              have eo : false = okC c := eo
              exact ⟨_, rfl, ifF ⟨_, hp.1, hsz, step _ (by rw [← eo, if_neg (by decide)])⟩⟩
          · obtain ⟨h3, h4⟩ := hp
            have et : s.cps.toList.take s.cps.size = s.cps.toList := List.take_of_length_le (Nat.le_of_eq Array.length_toList)
            rw [et] at h3
            refine ⟨D, _, rfl, .inl (.of h3), rfl, ?_, ?_⟩
            · rw [List.all_map]
              exact List.all_eq_true.mpr fun c _ => rfl
            · rw [in_empty]
              show Q (.bl (!!s.cps.toList.all okC)) H'
              rw [Bool.not_not]
              exact q H' h4
        · exact bad (by omega)
      · exact ⟨_, rfl, bad (by omega)⟩
    | int i =>
      have := hv.asInt
      subst this
      have e30 : (10 : Int) ^ (30 : Int).toNat = 1000000000000000000000000000000 := by decide +kernel
      refine ifF ⟨_, rfl, _, _, _, _, _, rfl, .ty _, hty, kit_ty ki, _, rfl, ifT ?_⟩
      refine ⟨_, rfl, _, _, _, _, _, rfl, .ty _, hty, kit_ty kb, _, rfl, ?_⟩
      refine ⟨_, rfl, ifT ⟨_, rfl, _, rfl, _, _, rfl, rfl, ⟨by decide, by decide, by decide⟩, _, _, rfl, rfl, ?_⟩⟩
      rw [e30]
      have q1 := q H (Same.refl H)
      have q1 : Q (.bl (decide (-999999999999999999999999999999 ≤ i ∧ i ≤ 999999999999999999999999999999))) H := q1
      have e : decide ((if i < 0 then -i else i) < 1000000000000000000000000000000) = decide (-999999999999999999999999999999 ≤ i ∧ i ≤ 999999999999999999999999999999) := by
        rw [decide_eq_decide]
        split <;> omega
      show Q (.bl (decide ((if i < 0 then -i else i) < 1000000000000000000000000000000))) H
      rw [e]
      exact q1
    | bool b => exact ifF ⟨_, rfl, _, _, _, _, _, rfl, .ty _, hty, kit_ty ki, _, rfl, ifT ⟨_, rfl, _, _, _, _, _, rfl, .ty _, hty, kit_ty kb, _, rfl, _, rfl, ifF (q H (Same.refl H))⟩⟩
    | none => exact ifF ⟨_, rfl, _, _, _, _, _, rfl, .ty _, hty, kit_ty ki, _, rfl, ifF (q H (Same.refl H))⟩
    | tuple b => exact ifF ⟨_, rfl, _, _, _, _, _, rfl, .ty _, hty, kit_ty ki, _, rfl, ifF (q H (Same.refl H))⟩
    | list b => exact ifF ⟨_, rfl, _, _, _, _, _, rfl, .ty _, hty, kit_ty ki, _, rfl, ifF (q H (Same.refl H))⟩
    | dict b => exact ifF ⟨_, rfl, _, _, _, _, _, rfl, .ty _, hty, kit_ty ki, _, rfl, ifF (q H (Same.refl H))⟩
theorem ok_lis_term (T : Txt K mg a d) : FnOk P w K mg base CX0 2 (a 66) (d 66) ["_law_thing"] (spDB termD) := by
  have G65 : FnOk P w K mg base CX0 1 (a 65) (d 65) ["_law_thing"] (spDB valD) := ok_lis_value T
  refine T.F66.ok sc__law_is_term (fun vs H Q E h => ?_) (fun cdv A outer s H vs Q E hr h => ?_)
  · obtain ⟨C, n, v, d, rfl, _⟩ := h
    rfl
  · obtain ⟨C, n, v, d, rfl, hv, q⟩ := h
    obtain ⟨nm, hty, kt, kl, ks, ki, kb⟩ := hv.ty (K := K)
    refine ⟨_, (pss_cons (ps_if (pt_not (pt_val (pe_callB (id := "isinstance")  call_isi (by rfl) T.z_isinstance (by decide +kernel) (pa_cons (pv 0) (pa_cons (pe_bltn (v := .ty "tuple") (by rfl) T.z_tuple (by decide +kernel) rfl) pa_nil)))))
    (pss_one (ps_ret (pe_call G65 (hr.mono (by decide)) (by rfl) T.g65 T.F65.kp T.b65 .nil pass0 (pa_cons (pv 0) pa_nil))))
    pss_nil)
  (pss_cons (ps_if (PW.pt (pw_or (pt_cmpR op_ne (pe_callB (id := "len")  call_len_seq (by rfl) T.z_len (by decide +kernel) (pa_cons (pv 0) pa_nil)) pe_int (nomark _)) (pw_or (pt_val (pe_callB (id := "isinstance")  call_isi (by rfl) T.z_isinstance (by decide +kernel) (pa_cons (pe_ix ix_tup (pv 0) pe_int (fun _ _ => rfl)) (pa_cons (pe_bltn (v := .ty "str") (by rfl) T.z_str (by decide +kernel) rfl) pa_nil)))) (pw_or1 (pt_not (pt_val (pe_call G65 (hr.mono (by decide)) (by rfl) T.g65 T.F65.kp T.b65 .nil pass0 (pa_cons (pe_ix ix_tup (pv 0) pe_int (fun _ _ => rfl)) pa_nil))))))))
    (pss_one (ps_ret pe_bl))
    pss_nil)
  (pss_one (ps_ret (pe_cmpR op_ge (pe_ix ix_tup (pv 0) pe_int (fun _ _ => rfl)) pe_int (nomark _)))))), ?_⟩
    refine ⟨_, rfl, _, _, _, _, _, rfl, .ty _, hty, kit_ty kt, _, rfl, ?_⟩
    have tv : isTup d = false → termD d = valD d := fun h => by
      cases d <;> first | exact Bool.or_false _ | cases h
    cases d with
    | tuple ds =>
      obtain ⟨p, xs, k, rfl, rfl, _, hp, _, pr⟩ := hv.asTup
      have hl := Paired.length pr
      have no : varD (.tuple ds) = false → ∀ H', Same H H' → Q (.bl false) H' := fun h H' s => by
        have q1 := q H' s
        rw [show termD (.tuple ds) = varD (.tuple ds) from rfl, h] at q1
        exact q1
      refine ifF ⟨_, rfl, p, _, rfl, .inr (.of hp), rfl, _, rfl, ite_nd (fun h => ?_) (fun h => ?_)⟩
      · exact no (varD_len fun e => h (by rw [hl, e]; rfl)) H (Same.refl H)
      have h : xs.length = 1 := by have := V.int.inj h; omega
      match xs, ds, pr, h with
      | [x], [e], .cons hx .nil, _ =>
        obtain ⟨nx, htx, _, _, kx, _⟩ := hx.ty (K := K)
        refine ⟨_, rfl, _, _, _, _, rfl, rfl, .of hp, atI_nat (j := 0) rfl, _, _, _, _, _, rfl, .ty _, htx, kit_ty kx, _, rfl, ?_⟩
        cases e with
        | str z => exact ifT (no rfl H (Same.refl H))
        | int i =>
          have := hx.asInt
          subst this
          refine ifF ⟨_, rfl, _, _, _, _, rfl, rfl, .of hp, atI_nat (j := 0) rfl, C, k, _, _, rfl, hx, fun H1 s1 => ⟨_, rfl, ?_⟩⟩
          cases ev : valD (.int i) with
          | false =>
            refine ifT (no ?_ H1 s1)
            have ev := of_decide_eq_false ev
            exact decide_eq_false fun h => ev ⟨by omega, h.2⟩
          | true =>
            have ev := of_decide_eq_true ev
            refine ifF ⟨_, rfl, _, _, _, _, rfl, rfl, .of (s1 _ _ hp), atI_nat (j := 0) rfl, _, _, rfl, rfl, ?_⟩
            have q1 := q H1 s1
            have q1 : Q (.bl (decide (0 ≤ i ∧ i ≤ 999999999999999999999999999999))) H1 := q1
            show Q (.bl (decide (0 ≤ i))) H1
            rw [show decide (0 ≤ i) = decide (0 ≤ i ∧ i ≤ 999999999999999999999999999999) by simp [ev.2]]
            exact q1
        | none => exact ifF ⟨_, rfl, _, _, _, _, rfl, rfl, .of hp, atI_nat (j := 0) rfl, C, k, _, _, rfl, hx, fun H1 s1 => ⟨_, rfl, ifT (no rfl H1 s1)⟩⟩
        | bool b => exact ifF ⟨_, rfl, _, _, _, _, rfl, rfl, .of hp, atI_nat (j := 0) rfl, C, k, _, _, rfl, hx, fun H1 s1 => ⟨_, rfl, ifT (no rfl H1 s1)⟩⟩
        | tuple b => exact ifF ⟨_, rfl, _, _, _, _, rfl, rfl, .of hp, atI_nat (j := 0) rfl, C, k, _, _, rfl, hx, fun H1 s1 => ⟨_, rfl, ifT (no rfl H1 s1)⟩⟩
        | list b => exact ifF ⟨_, rfl, _, _, _, _, rfl, rfl, .of hp, atI_nat (j := 0) rfl, C, k, _, _, rfl, hx, fun H1 s1 => ⟨_, rfl, ifT (no rfl H1 s1)⟩⟩
        | dict b => exact ifF ⟨_, rfl, _, _, _, _, rfl, rfl, .of hp, atI_nat (j := 0) rfl, C, k, _, _, rfl, hx, fun H1 s1 => ⟨_, rfl, ifT (no rfl H1 s1)⟩⟩
    | none => exact ifT ⟨_, rfl, C, n, v, _, rfl, hv, fun H1 s1 => by rw [← tv rfl]; exact q H1 s1⟩
    | bool b => exact ifT ⟨_, rfl, C, n, v, _, rfl, hv, fun H1 s1 => by rw [← tv rfl]; exact q H1 s1⟩
    | int b => exact ifT ⟨_, rfl, C, n, v, _, rfl, hv, fun H1 s1 => by rw [← tv rfl]; exact q H1 s1⟩
    | str b => exact ifT ⟨_, rfl, C, n, v, _, rfl, hv, fun H1 s1 => by rw [← tv rfl]; exact q H1 s1⟩
    | list b => exact ifT ⟨_, rfl, C, n, v, _, rfl, hv, fun H1 s1 => by rw [← tv rfl]; exact q H1 s1⟩
    | dict b => exact ifT ⟨_, rfl, C, n, v, _, rfl, hv, fun H1 s1 => by rw [← tv rfl]; exact q H1 s1⟩
def badD : PyData → Bool
  | .list as => !(decide (as.length ≤ 5) && as.all atomD)
  | _ => true
theorem ok_lbad (T : Txt K mg a d) : FnOk P w K mg base CX0 1 (a 67) (d 67) ["_law_atoms"] (spDB badD) := by
  refine T.F67.ok sc__law_bad_atoms (fun vs H Q E h => ?_) (fun cdv A outer s H vs Q E hr h => ?_)
  · obtain ⟨C, n, v, d, rfl, _⟩ := h
    rfl
  · obtain ⟨C, n, v, d, rfl, hv, q⟩ := h
    obtain ⟨nm, hty, kt, kl, ks, ki, kb⟩ := hv.ty (K := K)
    refine ⟨_, (pss_cons (ps_if (PW.pt (pw_or (pt_not (pt_val (pe_callB (id := "isinstance")  call_isi (by rfl) T.z_isinstance (by decide +kernel) (pa_cons (pv 0) (pa_cons (pe_bltn (v := .ty "list") (by rfl) T.z_list (by decide +kernel) rfl) pa_nil))))) (pw_or1 (pt_cmpR op_gt (pe_callB (id := "len")  call_len_seq (by rfl) T.z_len (by decide +kernel) (pa_cons (pv 0) pa_nil)) pe_int (nomark _)))))
    (pss_one (ps_ret pe_bl))
    pss_nil)
  (pss_cons (ps_for PassesOwn.never rfl (pi_list (pv 0)) (pg_name (i := 1) sc__law_bad_atoms.nd rfl (.inl rfl))
    (pss_one (ps_if (PW.pt (pw_or (pt_not (pt_val (pe_callB (id := "isinstance")  call_isi (by rfl) T.z_isinstance (by decide +kernel) (pa_cons (pv 1) (pa_cons (pe_bltn (v := .ty "tuple") (by rfl) T.z_tuple (by decide +kernel) rfl) pa_nil))))) (pw_or (pt_cmpR op_ne (pe_callB (id := "len")  call_len_seq (by rfl) T.z_len (by decide +kernel) (pa_cons (pv 1) pa_nil)) pe_int (nomark _)) (pw_or1 (pt_not (pt_val (pe_callB (id := "isinstance")  call_isi (by rfl) T.z_isinstance (by decide +kernel) (pa_cons (pe_ix ix_tup (pv 1) pe_int (fun _ _ => rfl)) (pa_cons (pe_bltn (v := .ty "tuple") (by rfl) T.z_tuple (by decide +kernel) rfl) pa_nil)))))))))
        (pss_one (ps_ret pe_bl))
        pss_nil)))
  (pss_one (ps_ret pe_bl)))), ?_⟩
    refine ⟨_, rfl, _, _, _, _, _, rfl, .ty _, hty, kit_ty kl, _, rfl, ?_⟩
    cases d with
    | list as =>
      obtain ⟨p, xs, k, rfl, rfl, _, hp, _, pr⟩ := hv.asLst
      have hl := Paired.length pr
      have q1 : Q (.bl (!(decide (as.length ≤ 5) && as.all atomD))) H := q H (Same.refl H)
      refine ifF ⟨_, rfl, p, _, rfl, .inl (.of hp), _, _, rfl, rfl, _, rfl, ite_d (fun h => ?_) (fun h => ?_)⟩
      · have h : (5 : Int) < xs.length := h
        rw [decide_eq_false (show ¬ as.length ≤ 5 by omega)] at q1
        exact q1
      have h : ¬ (5 : Int) < xs.length := h
      rw [decide_eq_true (show as.length ≤ 5 by omega), Bool.true_and] at q1
      refine ⟨_, rfl, p, rfl, ⟨_, .of hp⟩, for_list (K := K) (a := p) (xs := xs) (fun i σ H' => ∃ y : Option V, σ = [some (.ref p), y] ∧ H' = H ∧ ∀ x ∈ as.take i, atomD x = true) ⟨none, rfl, rfl, fun x h => by cases h⟩ (fun i σ H' _ hp' => ?_) (fun i y σ H' hy hp' => ?_) (fun σ H' hp' => ?_)⟩
      · obtain ⟨y, rfl, rfl, _⟩ := hp'
        exact .of hp
      · obtain ⟨y0, rfl, rfl, hall⟩ := hp'
        obtain ⟨e, he, hye⟩ := paired_at pr hy
        have no : atomD e = false → Q (.bl true) H' := fun h => by
          have : as.all atomD = false := List.all_eq_false.mpr ⟨e, List.mem_of_getElem? he, by rw [h]; decide⟩
          rw [this] at q1
          exact q1
        have yes : atomD e = true → ∃ y' : Option V, ([some (.ref p), some y] : List (Option V)) = [some (.ref p), y'] ∧ H' = H' ∧ ∀ x ∈ as.take (i + 1), atomD x = true := fun h => ⟨_, rfl, rfl, fun x hx => by
          rw [take_snoc he] at hx
          rcases List.mem_append.mp hx with hx | hx
          · exact hall x hx
          · rw [List.mem_singleton.mp hx]
            exact h⟩
        obtain ⟨ny, hty', kt', _⟩ := hye.ty (K := K)
        refine ⟨_, rfl, _, _, _, _, _, rfl, .ty _, hty', kit_ty kt', _, rfl, ?_⟩
        cases e with
        | tuple ds =>
          obtain ⟨b, us, k', rfl, rfl, _, hb, _, pb⟩ := hye.asTup
          have hlu := Paired.length pb
          refine ifF ⟨_, rfl, b, _, rfl, .inr (.of hb), rfl, _, rfl, ite_nd (fun h => ?_) (fun h => ?_)⟩
          · exact no (atomD_len fun e => h (by rw [hlu, e]; rfl))
          have h : us.length = 2 := by have := V.int.inj h; omega
          match us, ds, pb, h with
          | [u, z], [e, f], .cons hu (.cons hz .nil), _ =>
            obtain ⟨nz, htz, kz, _⟩ := hz.ty (K := K)
            refine ⟨_, rfl, _, _, _, _, rfl, rfl, .of hb, atI_nat (j := 1) rfl, _, _, _, _, _, rfl, .ty _, htz, kit_ty kz, _, rfl, ?_⟩
            cases f with
            | tuple g => exact ifF (yes rfl)
            | none => exact ifT (no rfl)
            | bool b => exact ifT (no rfl)
            | int b => exact ifT (no rfl)
            | str b => exact ifT (no rfl)
            | list b => exact ifT (no rfl)
            | dict b => exact ifT (no rfl)
        | none => exact ifT (no rfl)
        | bool b => exact ifT (no rfl)
        | int b => exact ifT (no rfl)
        | str b => exact ifT (no rfl)
        | list b => exact ifT (no rfl)
        | dict b => exact ifT (no rfl)
      · obtain ⟨y, rfl, rfl, hall⟩ := hp'
        rw [hl, List.take_length] at hall
        rw [List.all_eq_true.mpr hall] at q1
        exact q1
    | none => exact ifT (q H (Same.refl H))
    | bool b => exact ifT (q H (Same.refl H))
    | int b => exact ifT (q H (Same.refl H))
    | str b => exact ifT (q H (Same.refl H))
    | tuple b => exact ifT (q H (Same.refl H))
    | dict b => exact ifT (q H (Same.refl H))
end
theorem in_false : ∀ bs : List Bool, inV (.bl false) (bs.map V.bl) = !bs.all id
  | [] => rfl
  | b :: bs => by
    have ih := in_false bs
    have e1 : inV (.bl false) ((b :: bs).map V.bl) = (eqV (V.bl b) (.bl false) || inV (.bl false) (bs.map V.bl)) := rfl
    rw [e1, ih]
    cases b <;> rfl
theorem flat_bls (bs : List Bool) : (bs.map V.bl).all flatV = true := by
  rw [List.all_map]
  exact List.all_eq_true.mpr fun b _ => rfl
theorem any_names {ts : List (Str × Int)} {d : PyData} : (((ts.map (·.1)).map PyData.str).any fun z => PyData.eqv z d) = nameD ts d := by
  cases d with
  | str s =>
    show _ = (valV (tabK ts) (Sum.inr s)).isSome
    have h1 : (((ts.map (·.1)).map PyData.str).any fun z => PyData.eqv z (.str s)) = decide (s ∈ ts.map (·.1)) := by
      induction ts.map (·.1) with
      | nil => rfl
      | cons x r ih =>
        rw [List.map_cons, List.any_cons, ih]
        by_cases e : x = s
        · subst e
          simp [PyData.eqv]
        · have e' : ¬ s = x := fun h => e h.symm
          simp [PyData.eqv, e, e']
    rw [h1]
    cases ev : (valV (tabK ts) (Sum.inr s)).isSome with
    | true => exact decide_eq_true (val_isy ev)
    | false => exact decide_eq_false (val_isn ev)
  | none => rw [List.any_map]; exact List.any_eq_false.mpr fun x _ => by simp [PyData.eqv]
  | bool b => rw [List.any_map]; exact List.any_eq_false.mpr fun x _ => by simp [PyData.eqv]
  | int b => rw [List.any_map]; exact List.any_eq_false.mpr fun x _ => by simp [PyData.eqv]
  | tuple b => rw [List.any_map]; exact List.any_eq_false.mpr fun x _ => by simp [PyData.eqv]
  | list b => rw [List.any_map]; exact List.any_eq_false.mpr fun x _ => by simp [PyData.eqv]
  | dict b => rw [List.any_map]; exact List.any_eq_false.mpr fun x _ => by simp [PyData.eqv]
theorem safe_f {hs st : List PyData} : (hs.all fun x => !isTup x || st.any fun z => PyData.eqv z x) = ((hs.filter isTup).map fun x => st.any fun z => PyData.eqv z x).all id := by
  induction hs with
  | nil => rfl
  | cons x hs ih =>
    rw [List.all_cons, ih]
    cases e : isTup x with
    | true => rw [List.filter_cons_of_pos e]; rfl
    | false => rw [List.filter_cons_of_neg (by rw [e]; decide)]; rfl
theorem paired_right {α β : Type} {F : α → β → Prop} : ∀ {xs : List α} {ys : List β} {y : β}, Paired F xs ys → y ∈ ys → ∃ x ∈ xs, F x y
  | _, _, _, .cons r t, h => by
    rcases List.mem_cons.mp h with rfl | h
    · exact ⟨_, List.mem_cons_self, r⟩
    · obtain ⟨x, hx, f⟩ := paired_right t h
      exact ⟨x, List.mem_cons_of_mem _ hx, f⟩
theorem terms_len {C : Addr → Prop} {H : Hp} {n : Nat} {v : V} {x : PyData} (h : DA C H n v x) : (atTerms x).length ≤ 5000 := by
  unfold atTerms
  split
  · rename_i x0 z ts
    obtain ⟨b, us, k, _, _, _, _, _, pb⟩ := h.asTup
    match us, pb with
    | [u, y], .cons _ (.cons hy .nil) =>
    obtain ⟨_, zs, _, _, _, _, _, l5, pz⟩ := hy.asTup
    rw [← Paired.length pz]
    exact l5
  · exact Nat.zero_le _
theorem fm_len5 {as : List PyData} (h : ∀ x ∈ as, (atTerms x).length ≤ 5000) : ∀ l : List PyData, (∀ x ∈ l, x ∈ as) → (l.flatMap atTerms).length ≤ 5000 * l.length
  | [], _ => Nat.le_refl _
  | x :: l, hx => by
    rw [List.flatMap_cons, List.length_append, List.length_cons]
    have h1 := h x (hx x (by simp))
    have h2 := fm_len5 h l fun y hy => hx y (by simp [hy])
    omega
section
variable {P : Program} {w : World} {K : PySem.W.Frag} {mg : Str → Option Value} {base : Heap} {a : Nat → Addr} {d : Nat → FuncData}
def spFaultL : Sp := fun vs H Q _ => ∃ (C : Addr → Prop) (n : Nat) (t : Addr) (ts : List (Str × Int)) (m : Nat) (wi : Int) (v : V) (d : PyData), vs = [.ref t, .int wi, v] ∧ n ≤ 50 ∧ H t = some (.dK (tabK ts)) ∧ ts.length ≤ 5 ∧ Tabs ts m 4 ∧ DA C H n v d ∧ ∀ H', Same H H' → Q (.str (faultD ts wi d)) H'
theorem ok_faultL (T : Txt K mg a d) : FnOk P w K mg base CX0 3 (a 68) (d 68) ["_law_tables_here", "_law_width", "_law_part_here"] spFaultL := by
  have G66 : FnOk P w K mg base CX0 2 (a 66) (d 66) ["_law_thing"] (spDB termD) := ok_lis_term T
  have G67 : FnOk P w K mg base CX0 1 (a 67) (d 67) ["_law_atoms"] (spDB badD) := ok_lbad T
  refine T.F68.ok sc__law_fault (fun vs H Q E h => ?_) (fun cdv A outer s H vs Q E hr h => ?_)
  · obtain ⟨C, n, t, ts, m, wi, v, d, rfl, _⟩ := h
    rfl
  · obtain ⟨C, n, t, ts, m, wi, v, d, rfl, hn50, ht, t5, hT, hv, q⟩ := h
    have hu := hu_of hr
    refine ⟨_, (pss_cons (ps_if (PW.pt (pw_or (pt_not (pt_val (pe_callB (id := "isinstance")  call_isi (by rfl) T.z_isinstance (by decide +kernel) (pa_cons (pv 2) (pa_cons (pe_bltn (v := .ty "tuple") (by rfl) T.z_tuple (by decide +kernel) rfl) pa_nil))))) (pw_or (pt_cmpR op_ne (pe_callB (id := "len")  call_len_seq (by rfl) T.z_len (by decide +kernel) (pa_cons (pv 2) pa_nil)) pe_int (nomark _)) (pw_or (pt_not (pt_val (pe_callB (id := "isinstance")  call_isi (by rfl) T.z_isinstance (by decide +kernel) (pa_cons (pe_ix ix_tup (pv 2) pe_int (fun _ _ => rfl)) (pa_cons (pe_bltn (v := .ty "tuple") (by rfl) T.z_tuple (by decide +kernel) rfl) pa_nil))))) (pw_or1 (pt_val (pe_call G67 (hr.mono (by decide)) (by rfl) T.g67 T.F67.kp T.b67 .nil pass0 (pa_cons (pe_ix ix_tup (pv 2) pe_int (fun _ _ => rfl)) pa_nil))))))))
    (pss_one (ps_ret pe_str))
    pss_nil)
  (pss_cons (ps_if (PW.pt (pw_or (pt_cmpR op_ne (pe_callB (id := "len")  call_len_seq (by rfl) T.z_len (by decide +kernel) (pa_cons (pe_ix ix_tup (pv 2) pe_int (fun _ _ => rfl)) pa_nil)) (pv 1) (nomark _)) (pw_or1 (pt_cmpR op_in_seq pe_bl (pe_lc (own := [("_law_term_here", 6)]) rfl sc__law_fault.nd (pi_tup (pe_ix ix_tup (pv 2) pe_int (fun _ _ => rfl))) (blkOk_by (N := ["_law_tables_here", "_law_width", "_law_part_here", "_law_stand", "_law_name", "_law_terms", "_law_term_here", "_law_atom"]) (sc := defScope s__law_fault) (by decide +kernel)) (fun _ _ _ _ _ => pg_name (i := 6) sc__law_fault.nd rfl (.inl rfl)) (fun _ _ _ _ _ => pts_nil) (fun _ _ _ _ _ => (pe_call G66 (hr.mono (by decide)) (by rfl) T.g66 T.F66.kp T.b66 .nil pass0 (pa_cons (pv 6) pa_nil)))) (by rfl)))))
    (pss_one (ps_ret pe_str))
    pss_nil)
  (pss_cons (ps_if (pt_cmpR op_in_seq pe_bl (pe_lc (own := [("_law_atom", 7)]) rfl sc__law_fault.nd (pi_list (pe_ix ix_tup (pv 2) pe_int (fun _ _ => rfl))) (blkOk_by (N := ["_law_tables_here", "_law_width", "_law_part_here", "_law_stand", "_law_name", "_law_terms", "_law_term_here", "_law_atom"]) (sc := defScope s__law_fault) (by decide +kernel)) (fun _ _ _ _ _ => pg_name (i := 7) sc__law_fault.nd rfl (.inl rfl)) (fun _ _ _ _ _ => pts_nil) (fun _ _ _ _ _ => (pe_cmpR (r := rInD K) (op_inD (hu_of65 hr)) (pe_ix (r := rIxT K) ix_tup (pv 7) pe_int (fun _ _ => rfl)) (pe_callTy (T := "list")  (call_listD rfl) (by rfl) T.z_list (by decide +kernel) (pa_cons (pv 0) pa_nil)) (by rfl)))) (by rfl))
    (pss_one (ps_ret pe_str))
    pss_nil)
  (pss_cons (ps_set (i := 3) sc__law_fault.nd rfl (.inr rfl) (pe_lst pa_nil))
  (pss_cons (ps_for PassesOwn.never rfl (pi_list (pe_ix ix_tup (pv 2) pe_int (fun _ _ => rfl))) (pg_tup rfl (pgs_cons (pg_name (i := 4) sc__law_fault.nd rfl (.inl rfl)) (pgs_cons (pg_name (i := 5) sc__law_fault.nd rfl (.inl rfl)) pgs_nil)))
    (pss_cons (ps_if (PW.pt (pw_or (pt_cmpR op_ne (pe_callB (id := "len")  call_len_seq (by rfl) T.z_len (by decide +kernel) (pa_cons (pv 5) pa_nil)) (pe_dget (hu_of hr) (pv 0) (pv 4) (fun _ _ => rfl)) (nomark _)) (pw_or1 (pt_cmpR op_in_seq pe_bl (pe_lc (own := [("_law_term_here", 6)]) rfl sc__law_fault.nd (pi_tup (pv 5)) (blkOk_by (N := ["_law_tables_here", "_law_width", "_law_part_here", "_law_stand", "_law_name", "_law_terms", "_law_term_here", "_law_atom"]) (sc := defScope s__law_fault) (by decide +kernel)) (fun _ _ _ _ _ => pg_name (i := 6) sc__law_fault.nd rfl (.inl rfl)) (fun _ _ _ _ _ => pts_nil) (fun _ _ _ _ _ => (pe_call G66 (hr.mono (by decide)) (by rfl) T.g66 T.F66.kp T.b66 .nil pass0 (pa_cons (pv 6) pa_nil)))) (by rfl)))))
        (pss_one (ps_ret pe_str))
        pss_nil)
      (pss_one (ps_expr (pe_bm PySem.F.plainAttrs_list PySem.F.slot_list_extend PySem.F.type_list_extend mt_extend (pv 3) (pa_cons (pe_callTy (T := "list")  call_list_of (by rfl) T.z_list (by decide +kernel) (pa_cons (pv 5) pa_nil)) pa_nil))))))
  (pss_cons (ps_if (pt_cmpR op_in_seq pe_bl (pe_lc (own := [("_law_term_here", 6)]) rfl sc__law_fault.nd (pi_tup (pe_ix ix_tup (pv 2) pe_int (fun _ _ => rfl))) (blkOk_by (N := ["_law_tables_here", "_law_width", "_law_part_here", "_law_stand", "_law_name", "_law_terms", "_law_term_here", "_law_atom"]) (sc := defScope s__law_fault) (by decide +kernel)) (fun _ _ _ _ _ => pg_name (i := 6) sc__law_fault.nd rfl (.inl rfl)) (fun _ _ _ _ _ => (pts_one (pt_val (pe_callB (id := "isinstance") (r := rIsi K)  call_isi (by rfl) T.z_isinstance (by decide +kernel) (pa_cons (pv 6) (pa_cons (pe_bltn (v := .ty "tuple") (by rfl) T.z_tuple (by decide +kernel) rfl) pa_nil)))))) (fun _ _ _ _ _ => (pe_cmpR (r := rInD K) (op_inD (hu_of65 hr)) (pv 6) (pv 3) (by rfl)))) (by rfl))
    (pss_one (ps_ret pe_str))
    pss_nil)
  (pss_one (ps_ret pe_str)))))))), ?_⟩
    obtain ⟨nm, hty, kt, _⟩ := hv.ty (K := K)
    have no : formD d = false → ∀ H', Same H H' → Q (.str "form") H' := fun h H' s => by
      have q1 := q H' s
      unfold faultD at q1
      rw [if_pos h] at q1
      exact q1
    refine ⟨_, rfl, _, _, _, _, _, rfl, .ty _, hty, kit_ty kt, _, rfl, ?_⟩
    cases d with
    | none => exact ifT (no rfl H (Same.refl H))
    | bool b => exact ifT (no rfl H (Same.refl H))
    | int b => exact ifT (no rfl H (Same.refl H))
    | str b => exact ifT (no rfl H (Same.refl H))
    | list b => exact ifT (no rfl H (Same.refl H))
    | dict b => exact ifT (no rfl H (Same.refl H))
    | tuple ds =>
    obtain ⟨p, xs, k, rfl, rfl, _, hp, _, pr⟩ := hv.asTup
    have hl := Paired.length pr
    refine ifF ⟨_, rfl, p, _, rfl, .inr (.of hp), rfl, _, rfl, ite_nd (fun h => ?_) (fun h => ?_)⟩
    · exact no (formD_len fun e => h (by rw [hl, e]; rfl)) H (Same.refl H)
    have h : xs.length = 2 := by have := V.int.inj h; omega
    match xs, ds, pr, h with
    | [x, y], [e, f], .cons hx (.cons hy .nil), _ =>
    obtain ⟨nx, htx, kx, _⟩ := hx.ty (K := K)
    refine ⟨_, rfl, _, _, _, _, rfl, rfl, .of hp, atI_nat (j := 0) rfl, _, _, _, _, _, rfl, .ty _, htx, kit_ty kx, _, rfl, ?_⟩
    cases e with
    | none => exact ifT (no rfl H (Same.refl H))
    | bool b => exact ifT (no rfl H (Same.refl H))
    | int b => exact ifT (no rfl H (Same.refl H))
    | str b => exact ifT (no rfl H (Same.refl H))
    | list b => exact ifT (no rfl H (Same.refl H))
    | dict b => exact ifT (no rfl H (Same.refl H))
    | tuple hs =>
    refine ifF ⟨_, rfl, _, _, _, _, rfl, rfl, .of hp, atI_nat (j := 1) rfl, C, k, y, f, rfl, hy, fun H1 s1 => ⟨_, rfl, ?_⟩⟩
    have ef : formD (.tuple [.tuple hs, f]) = !badD f := by
      cases f <;> first | rfl | (show _ = !!_; rw [Bool.not_not]; rfl)
    cases eb : badD f with
    | true => exact ifT (no (by rw [ef, eb]; rfl) H1 s1)
    | false =>
    rw [eb] at ef
    have ef : formD (.tuple [.tuple hs, f]) = true := ef
    refine ifF ?_
    obtain ⟨hs', as, e', a5, hat⟩ := form_data ef
    cases e'
    clear no
    unfold faultD at q
    rw [if_neg (by rw [ef]; decide)] at q
    obtain ⟨g, gs, kg, ekg, rfl, _, hg, g5, pg⟩ := hx.asTup
    obtain ⟨c, zs, kc, ekc, rfl, nC, hc, c5, pc⟩ := hy.asLst
    have hlg := Paired.length pg
    have hlz := Paired.length pc
    have hp1 := s1 _ _ hp
    have hg1 := s1 _ _ hg
    have hc1 := s1 _ _ hc
    have nohead : termsD wi hs = false → ∀ H', Same H H' → Q (.str "head") H' := fun h H' s => by
      have q1 := q H' s
      rw [if_pos (show termsD wi (headOf (.tuple [.tuple hs, .list as])) = false from h)] at q1
      exact q1
    refine ⟨_, rfl, _, _, _, _, rfl, rfl, .of hp1, atI_nat (j := 0) rfl, g, _, rfl, .inr (.of hg1), _, rfl, rfl, _, rfl, ite_nd (fun h => ?_) (fun h => ?_)⟩
    · refine nohead ?_ H1 s1
      unfold termsD
      rw [show decide ((hs.length : Int) = wi) = false from decide_eq_false fun e => h (by rw [hlg, e])]
      rfl
    have h : (gs.length : Int) = wi := V.int.inj h
    have hw : (hs.length : Int) = wi := by rw [← hlg]; exact h
    refine ⟨_, rfl, _, _, _, _, rfl, rfl, .of hp1, atI_nat (j := 0) rfl, g, rfl, ⟨_, .of hg1⟩, fun D hD => ?_⟩
    refine lc_tup (K := K) (a := g) (xs := gs) (fun i H' => H' D = some (.lst (((hs.take i).map termD).map V.bl)) ∧ Same H1 H') ⟨upd_same, same_upd hD⟩ (fun i H' _ hp' => .of (hp'.2 _ _ hg1)) (fun i y H' hy' hp' => ?_) (fun H2 hp' => ?_)
    · obtain ⟨e, he, hxe⟩ := paired_at pg hy'
      refine ⟨rfl, _, rfl, C, kg, y, e, rfl, (hxe.same s1).same hp'.2, fun H3 s3 => ?_⟩
      refine ⟨_, s3 _ _ hp'.1, ?_, ?_, fun b o eb => ?_⟩
      · rw [List.length_map, List.length_map, List.length_take]
        exact Nat.lt_of_le_of_lt (by omega : _ ≤ 5000) (by decide)
      · rw [map_take he, List.map_append]
        exact upd_same
      · rw [upd_ne (ne_of_none eb hD)]
        exact s3 _ _ (hp'.2 b o eb)
    obtain ⟨h1, s2⟩ := hp'
    rw [hlg, List.take_length] at h1
    refine ⟨D, _, rfl, .inl (.of h1), rfl, flat_bls _, _, rfl, ?_⟩
    rw [if_neg Bool.false_ne_true, in_false, show (hs.map termD).all id = hs.all termD by rw [List.all_map]; rfl]
    have s12 := s1.trans s2
    cases eh : hs.all termD with
    | false =>
      refine ifT (nohead ?_ H2 s12)
      unfold termsD
      rw [eh, Bool.and_false]
    | true =>
    have et : termsD wi hs = true := by
      unfold termsD
      rw [eh, decide_eq_true hw]
      rfl
    refine ifF ?_
    rw [if_neg (show ¬ termsD wi (headOf (.tuple [.tuple hs, .list as])) = false by show ¬ termsD wi hs = false; rw [et]; decide)] at q
    clear nohead h1 hD
    have hp2 := s2 _ _ hp1
    have hg2 := s2 _ _ hg1
    have hc2 := s2 _ _ hc1
    have ht2 := s12 _ _ ht
    have kn : (tabK ts).map (fun kv => kV kv.1) = (ts.map (·.1)).map V.str := by
      have h := keys_tab ts
      have : (tabK ts).map (fun kv => kV kv.1) = ((tabK ts).map (·.1)).map kV := by rw [List.map_map]; rfl
      rw [this, h, List.map_map]
      rfl
    have low : ∀ s ∈ ts.map (·.1), Low s := fun s hs c hc => by have := ((hT.nm.wd s hs).2.2 c hc).2; omega
    have shn : SeqAt.shaped (.list ((ts.map (·.1)).map PyData.str)) = true := strs_shapedL low
    -- the names
    refine ⟨_, rfl, _, _, _, _, rfl, rfl, .of hp2, atI_nat (j := 1) rfl, c, rfl, ⟨_, .of hc2⟩, fun D hD => ?_⟩
    refine lc_list (K := K) (a := c) (xs := zs) (fun i H' => H' D = some (.lst (((as.take i).map fun x => nameD ts (atName x)).map V.bl)) ∧ Same H2 H') ⟨upd_same, same_upd hD⟩ (fun i H' _ hp' => .of (hp'.2 _ _ hc2)) (fun i z H' hz hp' => ?_) (fun H3 hp' => ?_)
    · obtain ⟨e, he, hze⟩ := paired_at pc hz
      have li : i < zs.length := (List.getElem?_eq_some_iff.mp hz).1
      obtain ⟨nmD, tsD, rfl⟩ := atom_data (hat e (List.mem_of_getElem? he))
      obtain ⟨b, us, k', ek', rfl, _, hb, _, pb⟩ := ((hze.same s12).same hp'.2).asTup
      match us, pb with
      | [u, y], .cons hu' (.cons hy' .nil) =>
      refine ⟨rfl, _, rfl, _, _, _, _, rfl, rfl, .of hb, atI_nat (j := 0) rfl, _, rfl, t, _, rfl, .inl (hp'.2 _ _ ht2), fun l hl => ?_⟩
      rw [kn]
      have sl := same_upd (o := .lst ((ts.map (·.1)).map V.str)) hl
      refine ⟨nmD, _, (hu'.same sl).dp, .lst (.of upd_same) (dp_strs _), hu'.shaped (by omega), shn, ?_⟩
      rw [any_names]
      refine ⟨_, sl _ _ hp'.1, ?_, ?_, fun x o ex => ?_⟩
      · rw [List.length_map, List.length_map, List.length_take]
        exact Nat.lt_of_le_of_lt (by omega : _ ≤ 5000) (by decide)
      · rw [map_take he, List.map_append]
        exact upd_same
      · rw [upd_ne (ne_of_none ex hD)]
        exact sl _ _ (hp'.2 x o ex)
    obtain ⟨h1, s3⟩ := hp'
    rw [hlz, List.take_length] at h1
    refine ⟨D, _, rfl, .inl (.of h1), rfl, flat_bls _, _, rfl, ?_⟩
    rw [if_neg Bool.false_ne_true, in_false, show (as.map fun x => nameD ts (atName x)).all id = as.all fun x => nameD ts (atName x) by rw [List.all_map]; rfl]
    have s13 := s12.trans s3
    clear h1 hD
    cases en : (as.all fun x => nameD ts (atName x)) with
    | false =>
      refine ifT ?_
      have q1 := q H3 s13
      rw [if_pos (show ((atomsOf (.tuple [.tuple hs, .list as])).all fun x => nameD ts (atName x)) = false from en)] at q1
      exact q1
    | true =>
    refine ifF ?_
    rw [if_neg (show ¬ ((atomsOf (.tuple [.tuple hs, .list as])).all fun x => nameD ts (atName x)) = false by show ¬ (as.all fun x => nameD ts (atName x)) = false; rw [en]; decide)] at q
    have hn : ∀ x ∈ as, nameD ts (atName x) = true := fun x hx => List.all_eq_true.mp en x hx
    have hp3 := s3 _ _ hp2
    have hg3 := s3 _ _ hg2
    have hc3 := s3 _ _ hc2
    have ht3 := s3 _ _ ht2
    have pc3 := paired_imp (fun _ _ h => DA.same h s13) pc
    have noterm : ∀ x ∈ as, termsD (wdD ts (atName x)) (atTerms x) = false → ∀ H', Same H H' → Q (.str "terms") H' := fun x hx h H' s => by
      have q1 := q H' s
      rw [if_pos (show ((atomsOf (.tuple [.tuple hs, .list as])).all fun x => termsD (wdD ts (atName x)) (atTerms x)) = false from List.all_eq_false.mpr ⟨x, hx, by rw [h]; decide⟩)] at q1
      exact q1
    -- the terms
    refine ⟨Nat.zero_le _, fun S hS => ?_⟩
    have sS := same_upd (o := .lst []) hS
    have nSc : c ≠ S := ne_of_none hc3 hS
    refine ⟨_, rfl, _, _, _, _, rfl, rfl, .of (sS _ _ hp3), atI_nat (j := 1) rfl, c, rfl, ⟨_, .of (sS _ _ hc3)⟩, ?_⟩
    refine for_list (K := K) (a := c) (xs := zs) (fun i σ H' => ∃ (ys : List V) (y4 y5 : Option V), σ = [some (.ref t), some (.int wi), some (.ref p), some (.ref S), y4, y5, none, none] ∧ H' S = some (.lst ys) ∧ Paired (DA (fun x => C x ∨ x = S) H' k) ys ((as.take i).flatMap atTerms) ∧ (∀ x ∈ as.take i, termsD (wdD ts (atName x)) (atTerms x) = true) ∧ (∀ b o, b ≠ S → H3 b = some o → H' b = some o))
      ⟨[], none, none, rfl, upd_same, .nil, (fun x h => by cases h), fun b o n e => by rw [upd_ne n]; exact e⟩ (fun i σ H' _ hp' => ?_) (fun i y σ H' hy' hp' => ?_) (fun σ H4 hp' => ?_)
    · obtain ⟨ys, y4, y5, rfl, _, _, _, o⟩ := hp'
      exact .of (o _ _ nSc hc3)
    · obtain ⟨ys, y4, y5, rfl, hSv, pS, hall, o⟩ := hp'
      obtain ⟨e, he, hze⟩ := paired_at pc3 hy'
      have hem := List.mem_of_getElem? he
      have li : i < zs.length := (List.getElem?_eq_some_iff.mp hy').1
      obtain ⟨nmD, tsD, rfl⟩ := atom_data (hat e hem)
      obtain ⟨s0, e0, hs0⟩ := name_data (hn _ hem)
      have e0 : nmD = .str s0 := e0
      subst e0
      obtain ⟨w0, v0, wa, _, _⟩ := tab_get hT hs0
      have keep : ∀ x o', ¬ (C x ∨ x = S) → H3 x = some o' → H' x = some o' := fun x o' hn e => o x o' (fun e' => hn (.inr e')) e
      have hze' := (hze.fresh hS).keep keep
      obtain ⟨b, us, k', ek', rfl, _, hb, _, pb⟩ := hze'.asTup
      match us, pb with
      | [u, y], .cons hu' (.cons hy2 .nil) =>
      obtain ⟨rfl, _⟩ := hu'.asStr
      obtain ⟨c2, z2, k2, ek2, rfl, nC2, hc2', l2, p2⟩ := hy2.asTup
      have hl2 := Paired.length p2
      have nSt : t ≠ S := ne_of_none ht3 hS
      have ht' := o _ _ nSt ht3
      have g : DGet H' t (.str s0) (some (.int w0)) := by
        have g0 := DGet.k (k := Sum.inr s0) ht'
        rw [v0] at g0
        exact g0
      have tw : termsD (wdD ts (atName (.tuple [.str s0, .tuple tsD]))) (atTerms (.tuple [.str s0, .tuple tsD])) = termsD w0 tsD := by show termsD (widthAt ts s0) tsD = _; rw [wa]
      have nt := noterm _ hem
      rw [tw] at nt
      have sHS : ∀ H5, (∀ b o, b ≠ S → H' b = some o → H5 b = some o) → Same H H5 := fun H5 h b o' e => by
        have e3 := s13 _ _ e
        have nb := ne_of_none e3 hS
        exact h b o' nb (o b o' nb e3)
      refine ⟨b, _, rfl, .of hb, rfl, _, _, rfl, _, _, rfl, rfl, ?_⟩
      refine ⟨_, rfl, c2, _, rfl, .inr (.of hc2'), _, rfl, _, rfl, t, _, rfl, g, rfl, _, rfl, ite_nd (fun h => ?_) (fun h => ?_)⟩
      · refine nt ?_ H' (sHS H' fun _ _ _ e => e)
        unfold termsD
        rw [show decide ((tsD.length : Int) = w0) = false from decide_eq_false fun e => h (by rw [hl2, e])]
        rfl
      have h : (z2.length : Int) = w0 := V.int.inj h
      refine ⟨_, rfl, c2, rfl, ⟨_, .of hc2'⟩, fun D hD => ?_⟩
      refine lc_tup (K := K) (a := c2) (xs := z2) (fun j H5 => H5 D = some (.lst (((tsD.take j).map termD).map V.bl)) ∧ Same H' H5) ⟨upd_same, same_upd hD⟩ (fun j H5 _ hp5 => .of (hp5.2 _ _ hc2')) (fun j y H5 hy5 hp5 => ?_) (fun H5 hp5 => ?_)
      · obtain ⟨e, he', hxe⟩ := paired_at p2 hy5
        refine ⟨rfl, _, rfl, _, k2, y, e, rfl, hxe.same hp5.2, fun H6 s6 => ?_⟩
        refine ⟨_, s6 _ _ hp5.1, ?_, ?_, fun b o eb => ?_⟩
        · rw [List.length_map, List.length_map, List.length_take]
          exact Nat.lt_of_le_of_lt (by omega : _ ≤ 5000) (by decide)
        · rw [map_take he', List.map_append]
          exact upd_same
        · rw [upd_ne (ne_of_none eb hD)]
          exact s6 _ _ (hp5.2 b o eb)
      obtain ⟨h5, s5⟩ := hp5
      rw [hl2, List.take_length] at h5
      refine ⟨D, _, rfl, .inl (.of h5), rfl, flat_bls _, _, rfl, ?_⟩
      rw [if_neg Bool.false_ne_true, in_false, show (tsD.map termD).all id = tsD.all termD by rw [List.all_map]; rfl]
      cases ea : tsD.all termD with
      | false =>
        refine ifT (nt ?_ H5 (sHS H5 fun _ _ _ e => s5 _ _ e))
        unfold termsD
        rw [ea, Bool.and_false]
      | true =>
      have yes : termsD w0 tsD = true := by
        unfold termsD
        rw [ea, show decide ((tsD.length : Int) = w0) = true from decide_eq_true (by omega)]
        rfl
      refine ifF ?_
      clear h5 hD
      refine ⟨_, rfl, .inl ⟨rfl, _, .of (s5 _ _ hSv)⟩, _, rfl, c2, z2, rfl, .inr (.of (s5 _ _ hc2')), fun L hL => ?_⟩
      have sL := same_upd (o := .lst z2) hL
      have nLS : L ≠ S := (ne_of_none (s5 _ _ hSv) hL).symm
      have ly := Paired.length pS
      have f5 := fm_len5 (as := as) (fun x hx => by
        obtain ⟨y, _, hyx⟩ := paired_right pc3 hx
        exact terms_len hyx) (as.take i) fun x hx => List.mem_of_mem_take hx
      have ti : (as.take i).length ≤ 5 := by rw [List.length_take]; omega
      refine ⟨S, L, ys, z2, rfl, rfl, sL _ _ (s5 _ _ hSv), upd_same, Nat.le_trans (by omega : _ ≤ 30000) (by decide), ?_⟩
      have kp : ∀ x o', ¬ (C x ∨ x = S) → H' x = some o' → upd (upd H5 L (.lst z2)) S (.lst (ys ++ z2)) x = some o' := fun x o' hn e => by
        rw [upd_ne (fun e' => hn (.inr e'))]
        exact sL _ _ (s5 _ _ e)
      refine ⟨ys ++ z2, _, _, rfl, upd_same, ?_, fun x hx => ?_, fun b o' n e => ?_⟩
      · rw [take_snoc he, List.flatMap_append, show [PyData.tuple [.str s0, .tuple tsD]].flatMap atTerms = tsD by simp [atTerms]]
        exact paired_app (paired_imp (fun _ _ h => h.keep kp) pS) (paired_imp (fun _ _ h => (h.keep kp).up (by omega)) p2)
      · rw [take_snoc he] at hx
        rcases List.mem_append.mp hx with hx | hx
        · exact hall x hx
        · rw [List.mem_singleton.mp hx, tw]
          exact yes
      · rw [upd_ne n]
        exact sL _ _ (s5 _ _ (o b o' n e))
    · obtain ⟨ys, y4, y5, rfl, hSv, pS, hall, o⟩ := hp'
      rw [hlz, List.take_length] at pS hall
      have et2 : ((atomsOf (.tuple [.tuple hs, .list as])).all fun x => termsD (wdD ts (atName x)) (atTerms x)) = true := List.all_eq_true.mpr hall
      rw [if_neg (by rw [et2]; decide)] at q
      clear noterm
      have nSp : p ≠ S := ne_of_none hp3 hS
      have nSg : g ≠ S := ne_of_none hg3 hS
      have hp4 := o _ _ nSp hp3
      have hg4 := o _ _ nSg hg3
      have s4 : Same H H4 := fun b o' e => o b o' (ne_of_none (s13 _ _ e) hS) (s13 _ _ e)
      have pg4 := paired_imp (fun _ _ h => DA.same h s4) pg
      have dpS : ∀ H5, Same H4 H5 → Dp K H5 (.ref S) (.list (as.flatMap atTerms)) := fun H5 s => .lst (.of (s _ _ hSv)) (dpall_of (fun _ _ => DA.dp) (paired_imp (fun _ _ h => DA.same h s) pS))
      have shS : SeqAt.shaped (.list (as.flatMap atTerms)) = true := shaped_list pS fun _ _ h => ⟨h.lay.1, by have := h.lay.2; omega⟩
      generalize hf : (fun x => (as.flatMap atTerms).any fun z => PyData.eqv z x) = f
      refine ⟨_, rfl, _, _, _, _, rfl, rfl, .of hp4, atI_nat (j := 0) rfl, g, rfl, ⟨_, .of hg4⟩, fun D hD => ?_⟩
      refine lc_tup (K := K) (a := g) (xs := gs) (fun i H' => H' D = some (.lst ((((hs.take i).filter isTup).map f).map V.bl)) ∧ Same H4 H') ⟨upd_same, same_upd hD⟩ (fun i H' _ hp' => .of (hp'.2 _ _ hg4)) (fun i y H' hy' hp' => ?_) (fun H5 hp' => ?_)
      · obtain ⟨e, he, hxe⟩ := paired_at pg4 hy'
        have li : i < gs.length := (List.getElem?_eq_some_iff.mp hy').1
        have hxe' := hxe.same hp'.2
        obtain ⟨ne, hte, ke, _⟩ := hxe'.ty (K := K)
        refine ⟨rfl, _, rfl, _, _, _, _, _, rfl, .ty _, hte, kit_ty ke, _, rfl, ?_⟩
        have et3 : (hs.take (i + 1)).filter isTup = (hs.take i).filter isTup ++ [e].filter isTup := by rw [take_snoc he, List.filter_append]
        cases ev : isTup e with
        | false =>
          refine ifF ⟨?_, hp'.2⟩
          rw [et3, List.filter_cons_of_neg (by rw [ev]; decide), List.filter_nil, List.append_nil]
          exact hp'.1
        | true =>
          have e5 : ((as.flatMap atTerms).any fun z => PyData.eqv z e) = f e := by rw [← hf]
          refine ifT ⟨_, rfl, _, rfl, e, _, hxe'.dp, dpS _ hp'.2, hxe'.shaped (by omega), shS, ?_⟩
          rw [e5]
          refine ⟨_, hp'.1, ?_, ?_, fun x o ex => ?_⟩
          · rw [List.length_map, List.length_map]
            refine Nat.lt_of_le_of_lt (List.length_filter_le ..) ?_
            rw [List.length_take]
            exact Nat.lt_of_le_of_lt (by omega : _ ≤ 5000) (by decide)
          · rw [et3, List.filter_cons_of_pos ev, List.map_append, List.map_append]
            exact upd_same
          · rw [upd_ne (ne_of_none ex hD)]
            exact hp'.2 x o ex
      obtain ⟨h5, s5⟩ := hp'
      rw [hlg, List.take_length] at h5
      refine ⟨D, _, rfl, .inl (.of h5), rfl, flat_bls _, _, rfl, ?_⟩
      have es : safeD (.tuple [.tuple hs, .list as]) = ((hs.filter isTup).map f).all id := by
        rw [← hf]
        exact safe_f
      rw [if_neg Bool.false_ne_true, in_false, ← es]
      have q1 := q H5 (s4.trans s5)
      cases ev : safeD (.tuple [.tuple hs, .list as]) with
      | false =>
        rw [ev, if_pos rfl] at q1
        exact ifT q1
      | true =>
        rw [ev, if_neg (by decide)] at q1
        exact ifF q1
end
theorem firstD_none {ts : List (Str × Int)} {w : Int} : ∀ {ds : List PyData} {k : Nat}, (∀ d ∈ ds, faultD ts w d = "") → firstD ts w ds k = none
  | [], _, _ => rfl
  | d :: r, k, h => by
    unfold firstD
    rw [if_pos (h d (by simp))]
    exact firstD_none fun x hx => h x (by simp [hx])
theorem firstD_at {ts : List (Str × Int)} {w : Int} : ∀ {ds : List PyData} {k i : Nat} {d : PyData}, (∀ x ∈ ds.take i, faultD ts w x = "") → ds[i]? = some d → faultD ts w d ≠ "" → firstD ts w ds k = some (faultD ts w d, k + i)
  | [], _, _, _, _, h, _ => by simp at h
  | x :: r, k, 0, d, _, h, ne => by
    cases h
    unfold firstD
    rw [if_neg ne]
    rfl
  | x :: r, k, i + 1, d, hb, h, ne => by
    unfold firstD
    rw [if_pos (hb x (by simp)), firstD_at (i := i) (fun y hy => hb y (by simp [hy])) (by simpa using h) ne]
    rw [show k + 1 + i = k + (i + 1) by omega]
def DueV (H : Hp) : Option (Str × Int) → V → Prop
  | none, u => u = .non
  | some (s, i), u => ∃ r, u = .ref r ∧ H r = some (.tup [.str s, .int i])
theorem due_w {ts : List (Str × Int)} {wd pd : PyData} (h : widthD wd = none) : dueD ts wd pd = some (("width" : Str), (-1 : Int)) := by
  unfold dueD
  rw [h]
theorem due_p {ts : List (Str × Int)} {wi : Int} {wd pd : PyData} (h : widthD wd = some wi) (hp : ∀ ds, pd = .list ds → ¬ ds.length ≤ 4000) : dueD ts wd pd = some (("parts" : Str), (-1 : Int)) := by
  unfold dueD
  rw [h]
  cases pd with
  | list ds => exact if_neg (hp ds rfl)
  | _ => rfl
theorem due_l {ts : List (Str × Int)} {wi : Int} {wd : PyData} {ds : List PyData} (h : widthD wd = some wi) (hp : ds.length ≤ 4000) : dueD ts wd (.list ds) = (firstD ts wi ds 0).map fun z => (z.1, (z.2 : Int)) := by
  unfold dueD
  rw [h]
  exact if_pos hp
section
variable {P : Program} {w : World} {K : PySem.W.Frag} {mg : Str → Option Value} {base : Heap} {a : Nat → Addr} {d : Nat → FuncData}
def spDue : Sp := fun vs H Q _ => ∃ (C : Addr → Prop) (n : Nat) (t : Addr) (ts : List (Str × Int)) (m : Nat) (xw xp : V) (wd pd : PyData), vs = [.ref t, xw, xp] ∧ n ≤ 50 ∧ H t = some (.dK (tabK ts)) ∧ ts.length ≤ 5 ∧ Tabs ts m 4 ∧ DA C H n xw wd ∧ DA C H n xp pd ∧ ∀ u H', DueV H' (dueD ts wd pd) u → Same H H' → Q u H'
theorem ok_due (T : Txt K mg a d) : FnOk P w K mg base CX0 4 (a 69) (d 69) ["_law_tables_here", "_law_width", "_law_parts"] spDue := by
  have G68 : FnOk P w K mg base CX0 3 (a 68) (d 68) ["_law_tables_here", "_law_width", "_law_part_here"] spFaultL := ok_faultL T
  refine T.F69.ok sc__law_due (fun vs H Q E h => ?_) (fun cdv A outer s H vs Q E hr h => ?_)
  · obtain ⟨C, n, t, ts, m, xw, xp, wd, pd, rfl, _⟩ := h
    rfl
  · obtain ⟨C, n, t, ts, m, xw, xp, wd, pd, rfl, n50, ht, t5, hT, hw, hp, q⟩ := h
    refine ⟨_, (pss_cons (ps_if (PW.pt (pw_or (pt_not (pt_val (pe_callB (id := "isinstance")  call_isi (by rfl) T.z_isinstance (by decide +kernel) (pa_cons (pv 1) (pa_cons (pe_bltn (v := .ty "int") (by rfl) T.z_int (by decide +kernel) rfl) pa_nil))))) (pw_or (pt_val (pe_callB (id := "isinstance")  call_isi (by rfl) T.z_isinstance (by decide +kernel) (pa_cons (pv 1) (pa_cons (pe_bltn (v := .ty "bool") (by rfl) T.z_bool (by decide +kernel) rfl) pa_nil)))) (pw_or1 (pt_not (pt_chain op_le op_le pe_int (pv 1) pe_int))))))
    (pss_one (ps_ret (pe_tup (pa_cons pe_str (pa_cons (pe_un un_neg pe_int) pa_nil)))))
    pss_nil)
  (pss_cons (ps_if (PW.pt (pw_or (pt_not (pt_val (pe_callB (id := "isinstance")  call_isi (by rfl) T.z_isinstance (by decide +kernel) (pa_cons (pv 2) (pa_cons (pe_bltn (v := .ty "list") (by rfl) T.z_list (by decide +kernel) rfl) pa_nil))))) (pw_or1 (pt_cmpR op_gt (pe_callB (id := "len")  call_len_seq (by rfl) T.z_len (by decide +kernel) (pa_cons (pv 2) pa_nil)) pe_int (nomark _)))))
    (pss_one (ps_ret (pe_tup (pa_cons pe_str (pa_cons (pe_un un_neg pe_int) pa_nil)))))
    pss_nil)
  (pss_cons (ps_for PassesOwn.never rfl (pi_enum (by rfl) T.z_enumerate (pa_cons (pv 2) pa_nil)) (pg_tup rfl (pgs_cons (pg_name (i := 3) sc__law_due.nd rfl (.inl rfl)) (pgs_cons (pg_name (i := 4) sc__law_due.nd rfl (.inl rfl)) pgs_nil)))
    (pss_cons (ps_set (i := 5) sc__law_due.nd rfl (.inl rfl) (pe_call G68 (hr.mono (by decide)) (by rfl) T.g68 T.F68.kp T.b68 .nil pass0 (pa_cons (pv 0) (pa_cons (pv 1) (pa_cons (pv 4) pa_nil)))))
      (pss_one (ps_if (pt_cmpR op_ne (pv 5) pe_str (nomark _))
        (pss_one (ps_ret (pe_tup (pa_cons (pv 5) (pa_cons (pv 3) pa_nil)))))
        pss_nil))))
  (pss_one (ps_ret pe_non))))), ?_⟩
    obtain ⟨nw, htw, _, _, _, kwi, kwb⟩ := hw.ty (K := K)
    obtain ⟨np, htp, _, kpl, _⟩ := hp.ty (K := K)
    have badw : widthD wd = none → (([V.str "width", .int (-1)] : List V).length ≤ sizeLine ∧ ∀ r, H r = none → Q (.ref r) (upd H r (.tup [.str "width", .int (-1)]))) := fun h => ⟨by show 2 ≤ sizeLine; decide, fun r hr => q _ _ (by rw [due_w h]; exact ⟨r, rfl, upd_same⟩) (same_upd hr)⟩
    have no : isIntD wd = false → Q (.bl true) H → True := fun _ _ => trivial
    refine ⟨_, rfl, _, _, _, _, _, rfl, .ty _, htw, kit_ty kwi, _, rfl, ?_⟩
    cases wd with
    | none => exact ifT ⟨_, rfl, badw rfl⟩
    | str b => exact ifT ⟨_, rfl, badw rfl⟩
    | tuple b => exact ifT ⟨_, rfl, badw rfl⟩
    | list b => exact ifT ⟨_, rfl, badw rfl⟩
    | dict b => exact ifT ⟨_, rfl, badw rfl⟩
    | bool b => exact ifF ⟨_, rfl, _, _, _, _, _, rfl, .ty _, htw, kit_ty kwb, _, rfl, ifT ⟨_, rfl, badw rfl⟩⟩
    | int wi =>
    have := hw.asInt
    subst this
    refine ifF ⟨_, rfl, _, _, _, _, _, rfl, .ty _, htw, kit_ty kwb, _, rfl, ifF ?_⟩
    refine ⟨_, rfl, _, _, rfl, rfl, _, rfl, ite_d (fun h1 => ?_) (fun h1 => ?_)⟩
    rotate_left
    · have h1 : ¬ 0 ≤ wi := h1
      exact ⟨_, rfl, _, rfl, badw (if_neg fun z => h1 z.1)⟩
    have h1 : 0 ≤ wi := h1
    refine ⟨_, _, rfl, rfl, _, rfl, ite_nd (fun h2 => ?_) (fun h2 => ?_)⟩
    · have h2 : ¬ wi ≤ 12 := h2
      exact ⟨_, rfl, badw (if_neg fun z => h2 z.2)⟩
    have h2 : wi ≤ 12 := h2
    have ew : widthD (.int wi) = some wi := if_pos ⟨h1, h2⟩
    clear badw no
    have badp : (∀ ds, pd = .list ds → ¬ ds.length ≤ 4000) → (([V.str "parts", .int (-1)] : List V).length ≤ sizeLine ∧ ∀ r, H r = none → Q (.ref r) (upd H r (.tup [.str "parts", .int (-1)]))) := fun h => ⟨by show 2 ≤ sizeLine; decide, fun r hr => q _ _ (by rw [due_p ew h]; exact ⟨r, rfl, upd_same⟩) (same_upd hr)⟩
    refine ⟨_, rfl, _, _, _, _, _, rfl, .ty _, htp, kit_ty kpl, _, rfl, ?_⟩
    cases pd with
    | none => exact ifT ⟨_, rfl, badp fun ds e => nomatch e⟩
    | str b => exact ifT ⟨_, rfl, badp fun ds e => nomatch e⟩
    | tuple b => exact ifT ⟨_, rfl, badp fun ds e => nomatch e⟩
    | int b => exact ifT ⟨_, rfl, badp fun ds e => nomatch e⟩
    | dict b => exact ifT ⟨_, rfl, badp fun ds e => nomatch e⟩
    | bool b => exact ifT ⟨_, rfl, badp fun ds e => nomatch e⟩
    | list ds =>
    obtain ⟨l, xs, k, rfl, rfl, _, hl, l5, pr⟩ := hp.asLst
    have hlen := Paired.length pr
    refine ifF ⟨_, rfl, l, _, rfl, .inl (.of hl), _, _, rfl, rfl, _, rfl, ite_d (fun h => ?_) (fun h => ?_)⟩
    · have h : (4000 : Int) < xs.length := h
      exact ⟨_, rfl, badp fun ds' e => by cases e; omega⟩
    have h : ¬ (4000 : Int) < xs.length := h
    have l4 : ds.length ≤ 4000 := by omega
    clear badp
    rw [due_l ew l4] at q
    refine ⟨_, rfl, l, _, rfl, .of hl, ?_⟩
    refine for_it (walk_enum (K := K) (a := l) (xs := xs)) (fun i σ H' => ∃ (y3 y4 y5 : Option V), σ = [some (.ref t), some (.int wi), some (.ref l), y3, y4, y5] ∧ (∀ x ∈ ds.take i, faultD ts wi x = "") ∧ Same H H')
      ⟨none, none, none, rfl, (fun x h => by cases h), Same.refl H⟩ (fun i σ H' _ hp' => ?_) (fun i v σ H' H'' hi hp' hy => ?_) (fun σ H' hp' => ?_)
    · obtain ⟨y3, y4, y5, rfl, _, s⟩ := hp'
      exact .of (s _ _ hl)
    · obtain ⟨y3, y4, y5, rfl, hall, s⟩ := hp'
      obtain ⟨T', u1, u2, rfl, hT', rfl, hu1, hu2⟩ := hy
      cases hu1
      have sT := same_upd (o := .tup [.int ((i : Nat) : Int), u2]) hT'
      have s4 := s.trans sT
      obtain ⟨e, he, hue⟩ := paired_at pr hu2
      refine ⟨T', _, rfl, .of upd_same, rfl, _, _, rfl, _, _, rfl, rfl, ?_⟩
      refine ⟨_, rfl, _, rfl, _, rfl, C, k, t, ts, m, wi, u2, e, rfl, by omega, s4 _ _ ht, t5, hT, hue.same s4, fun H5 s5 => ?_⟩
      refine ⟨_, rfl, rfl, _, rfl, ite_nd (fun hne => ?_) (fun heq => ?_)⟩
      · have hne : faultD ts wi e ≠ "" := fun h => hne (by rw [h])
        refine ⟨_, rfl, _, rfl, by show 2 ≤ sizeLine; decide, fun r hr => q _ _ ?_ ((s4.trans s5).trans (same_upd hr))⟩
        rw [firstD_at (k := 0) hall he hne, Nat.zero_add]
        exact ⟨r, rfl, upd_same⟩
      · have heq : faultD ts wi e = "" := V.str.inj heq
        refine ⟨_, _, _, rfl, fun x hx => ?_, s4.trans s5⟩
        rw [take_snoc he] at hx
        rcases List.mem_append.mp hx with hx | hx
        · exact hall x hx
        · rw [List.mem_singleton.mp hx]
          exact heq
    · obtain ⟨y3, y4, y5, rfl, hall, s⟩ := hp'
      rw [hlen, List.take_length] at hall
      refine q .non H' ?_ s
      rw [firstD_none hall]
      rfl
theorem ok_iqinit (T : Txt K mg a d) : FnOk P w K mg base CX0 1 (a 1700) (d 1700) ["self", "part", "at"] (spI2 (a 7) "part" "at") := by
  refine T.F1700.ok sc_InvalidQuestion___init__ (fun vs H Q E h => ?_) (fun cdv A outer s H vs Q E hr h => ?_)
  · obtain ⟨x, u, v, rfl, _⟩ := h
    rfl
  · obtain ⟨x, u, v, rfl, hx, q⟩ := h
    refine ⟨_, (pss_cons (ps_ost (pv 0) (pv 1))
  (pss_one (ps_ost (pv 0) (pv 2)))), _, rfl, _, rfl, x, _, rfl, T.x_7, T.no_7_part, .inl ⟨hx, fun dx hdx ne => ?_⟩⟩
    have e1 : upd (upd H dx (exd dx [(("part" : Str), u)])) x (exo x (a 7) (some dx)) dx = some (exd dx [(("part" : Str), u)]) := by rw [upd_ne ne]; exact upd_same
    refine ⟨_, rfl, _, rfl, x, _, rfl, T.x_7, T.no_7_at, .inr ⟨dx, _, upd_same, e1, by show 1 ≤ 900; decide, q dx _ hdx ne ?_ upd_same fun b o nb nd e => ?_⟩⟩
    · rw [upd_ne ne.symm]
      exact upd_same
    · rw [upd_ne nd, upd_ne nb, upd_ne nd]
      exact e
def spChkQ (CS CE : Addr) : Sp := fun vs H Q E => ∃ (C : Addr → Prop) (n : Nat) (sp : Addr) (ts : List (Str × Int)) (ks : List KeyE) (ss : List SvE) (m ms : Nat) (xw xp : V) (wd pd : PyData), vs = [.ref sp, xw, xp] ∧ n ≤ 50 ∧ SchAt CS sp H ts ks ss m ms ∧ DA C H n xw wd ∧ DA C H n xp pd ∧
  (dueD ts wd pd = none → ∀ H', Same H H' → Q .non H') ∧ (∀ s i, dueD ts wd pd = some (s, i) → ∀ H', Same H H' → Er2 CE "part" "at" (.str s) (.int i) H' E)
theorem ok_chkq (T : Txt K mg a d) : FnOk P w K mg base (L2.CX P w) 6 (a 52) (d 52) ["schema", "width", "parts"] (spChkQ (a 42) (a 7)) := by
  have G11 : FnOk P w K mg base CX0 1 (a 11) (d 11) ["thing"] (spB plainV) := ok_plain T
  have G51 : FnOk P w K mg base CX0 5 (a 51) (d 51) ["tables", "width", "part"] spWrong := ok_wrong T
  have G5201 : FnOk P w K mg base CX0 1 (a 5201) (d 5201) ["self"] (spProp (a 42) fun ts _ _ => tabK ts) := ok_p_tables T
  have G1700 : FnOk P w K mg base CX0 1 (a 1700) (d 1700) ["self", "part", "at"] (spI2 (a 7) "part" "at") := ok_iqinit T
  refine T.F52.okX sc__check_question (fun vs H Q E h => ?_) (fun cdv A outer s H vs Q E hr h => ?_)
  · obtain ⟨C, n, sp, ts, ks, ss, m, ms, xw, xp, wd, pd, rfl, _⟩ := h
    rfl
  · obtain ⟨C, n, sp, ts, ks, ss, m, ms, xw, xp, wd, pd, rfl, n50, hS, hw, hp, q0, q1⟩ := h
    obtain ⟨t1, h_MOST_WIDTH_questions⟩ := T.c_MOST_WIDTH_questions
    obtain ⟨t2, h_MOST_PARTS⟩ := T.c_MOST_PARTS
    refine ⟨_, (pss_cons (ps_if (PW.pt (pw_or (pt_not (pt_val (pe_call G11 (hr.mono (by decide)) (by rfl) T.g11 T.F11.kp T.b11 .nil pass0 (pa_cons (pv 1) pa_nil)))) (pw_or1 (pt_not (pt_chain op_le op_le pe_int (pv 1) (pe_glob (v := .int (12)) rfl h_MOST_WIDTH_questions ⟨_, rfl⟩))))))
    (pss_one (ps_raise rfl (takes_of rfl rfl rfl rfl) (pmk_oex T.x_7 T.in_7 T.ti_7 G1700 (hr.mono (by decide)) T.b1700 .nil pass0 (by rfl) T.cg_7 (pa_cons pe_str (pa_cons (pe_un un_neg pe_int) pa_nil)))))
    pss_nil)
  (pss_cons (ps_if (PW.pt (pw_or (pt_not (pt_val (pe_callB (id := "isinstance")  call_isi (by rfl) T.z_isinstance (by decide +kernel) (pa_cons (pv 2) (pa_cons (pe_bltn (v := .ty "list") (by rfl) T.z_list (by decide +kernel) rfl) pa_nil))))) (pw_or1 (pt_cmpR op_gt (pe_callB (id := "len")  call_len_seq (by rfl) T.z_len (by decide +kernel) (pa_cons (pv 2) pa_nil)) (pe_glob (v := .int (4000)) rfl h_MOST_PARTS ⟨_, rfl⟩) (nomark _)))))
    (pss_one (ps_raise rfl (takes_of rfl rfl rfl rfl) (pmk_oex T.x_7 T.in_7 T.ti_7 G1700 (hr.mono (by decide)) T.b1700 .nil pass0 (by rfl) T.cg_7 (pa_cons pe_str (pa_cons (pe_un un_neg pe_int) pa_nil)))))
    pss_nil)
  (pss_cons (ps_set (i := 3) sc__check_question.nd rfl (.inl rfl) (pe_prop (pv 0) T.cl_42 T.p_5201 G5201 (hr.mono (by decide)) T.b5201 .nil pass0 rfl))
  (pss_one (ps_for (passes_of rfl) rfl (pi_enum (by rfl) T.z_enumerate (pa_cons (pv 2) pa_nil)) (pg_tup rfl (pgs_cons (pg_name (i := 4) sc__check_question.nd rfl (.inl rfl)) (pgs_cons (pg_name (i := 5) sc__check_question.nd rfl (.inl rfl)) pgs_nil)))
    (pss_cons (ps_set (i := 6) sc__check_question.nd rfl (.inl rfl) (pe_call G51 (hr.mono (by decide)) (by rfl) T.g51 T.F51.kp T.b51 .nil pass0 (pa_cons (pv 3) (pa_cons (pv 1) (pa_cons (pv 5) pa_nil)))))
      (pss_one (ps_if (pt_cmpR op_notN (pv 6) pe_non (nomark _))
        (pss_one (ps_raise rfl (takes_of rfl rfl rfl rfl) (pmk_oex T.x_7 T.in_7 T.ti_7 G1700 (hr.mono (by decide)) T.b1700 .nil pass0 (by rfl) T.cg_7 (pa_cons (pv 6) (pa_cons (pv 4) pa_nil)))))
        pss_nil)))))))), ?_⟩
    have badw : widthD wd = none → ∀ H', Same H H' → Er2 (a 7) "part" "at" (.str "width") (.int (-1)) H' E := fun h => q1 _ _ (due_w h)
    refine ⟨_, rfl, xw, rfl, hw.thg, fun H1 s1 => ⟨_, rfl, ?_⟩⟩
    rw [hw.plain]
    cases wd with
    | none => exact ifT ⟨_, rfl, er2_raise (badw rfl H1 s1)⟩
    | str b => exact ifT ⟨_, rfl, er2_raise (badw rfl H1 s1)⟩
    | tuple b => exact ifT ⟨_, rfl, er2_raise (badw rfl H1 s1)⟩
    | list b => exact ifT ⟨_, rfl, er2_raise (badw rfl H1 s1)⟩
    | dict b => exact ifT ⟨_, rfl, er2_raise (badw rfl H1 s1)⟩
    | bool b => exact ifT ⟨_, rfl, er2_raise (badw rfl H1 s1)⟩
    | int wi =>
    have := hw.asInt
    subst this
    refine ifF ⟨_, rfl, _, _, rfl, rfl, _, rfl, ite_d (fun h1 => ?_) (fun h1 => ?_)⟩
    rotate_left
    · have h1 : ¬ 0 ≤ wi := h1
      exact ⟨_, rfl, _, rfl, er2_raise (badw (if_neg fun z => h1 z.1) H1 s1)⟩
    have h1 : 0 ≤ wi := h1
    refine ⟨_, _, rfl, rfl, _, rfl, ite_nd (fun h2 => ?_) (fun h2 => ?_)⟩
    · have h2 : ¬ wi ≤ 12 := h2
      exact ⟨_, rfl, er2_raise (badw (if_neg fun z => h2 z.2) H1 s1)⟩
    have h2 : wi ≤ 12 := h2
    have ew : widthD (.int wi) = some wi := if_pos ⟨h1, h2⟩
    clear badw
    have badp : (∀ ds, pd = .list ds → ¬ ds.length ≤ 4000) → Er2 (a 7) "part" "at" (.str "parts") (.int (-1)) H1 E := fun h => q1 _ _ (due_p ew h) H1 s1
    have hp1 := hp.same s1
    obtain ⟨np, htp, _, kpl, _⟩ := hp1.ty (K := K)
    refine ⟨_, rfl, _, _, _, _, _, rfl, .ty _, htp, kit_ty kpl, _, rfl, ?_⟩
    cases pd with
    | none => exact ifT ⟨_, rfl, er2_raise (badp fun ds e => nomatch e)⟩
    | str b => exact ifT ⟨_, rfl, er2_raise (badp fun ds e => nomatch e)⟩
    | tuple b => exact ifT ⟨_, rfl, er2_raise (badp fun ds e => nomatch e)⟩
    | int b => exact ifT ⟨_, rfl, er2_raise (badp fun ds e => nomatch e)⟩
    | dict b => exact ifT ⟨_, rfl, er2_raise (badp fun ds e => nomatch e)⟩
    | bool b => exact ifT ⟨_, rfl, er2_raise (badp fun ds e => nomatch e)⟩
    | list ds =>
    obtain ⟨l, xs, k, rfl, rfl, _, hl, l5, pr⟩ := hp1.asLst
    have hlen := Paired.length pr
    refine ifF ⟨_, rfl, _, _, rfl, .inl (.of hl), _, _, rfl, rfl, _, rfl, ite_d (fun h => ?_) (fun h => ?_)⟩
    · have h : (4000 : Int) < xs.length := h
      exact ⟨_, rfl, er2_raise (badp fun ds' e => by cases e; omega)⟩
    have h : ¬ (4000 : Int) < xs.length := h
    have l4 : ds.length ≤ 4000 := by omega
    clear badp
    rw [due_l ew l4] at q0 q1
    obtain ⟨dx, d1, d2, d3, O⟩ := hS.same s1
    refine ⟨_, rfl, sp, dx, _, rfl, O.ob, sp, ts, ks, ss, m, ms, rfl, hS.same s1, fun D H2 hD hdc s2 => ?_⟩
    have s12 := s1.trans s2
    have hl2 := s2 _ _ hl
    refine ⟨_, rfl, l, _, rfl, .of hl2, ?_⟩
    refine for_it (walk_enum (K := K) (a := l) (xs := xs)) (fun i σ H' => ∃ (y4 y5 y6 : Option V), σ = [some (.ref sp), some (.int wi), some (.ref l), some (.ref D), y4, y5, y6] ∧ (∀ x ∈ ds.take i, faultD ts wi x = "") ∧ Same H2 H')
      ⟨none, none, none, rfl, (fun x h => by cases h), Same.refl H2⟩ (fun i σ H' _ hp' => ?_) (fun i v σ H' H'' hi hp' hy => ?_) (fun σ H' hp' => ?_)
    · obtain ⟨y3, y4, y5, rfl, _, s⟩ := hp'
      exact .of (s _ _ hl2)
    · obtain ⟨y3, y4, y5, rfl, hall, s⟩ := hp'
      obtain ⟨T', u1, u2, rfl, hT', rfl, hu1, hu2⟩ := hy
      cases hu1
      have sT := same_upd (o := .tup [.int ((i : Nat) : Int), u2]) hT'
      have s4 := s.trans sT
      have s14 := s12.trans s4
      obtain ⟨e, he, hue⟩ := paired_at pr hu2
      refine ⟨T', _, rfl, .of upd_same, rfl, _, _, rfl, _, _, rfl, rfl, ?_⟩
      refine ⟨_, rfl, _, rfl, _, rfl, C, k, D, ts, m, wi, u2, e, rfl, by omega, hdc.same s4, O.hT, (hue.same s2).same s4, fun H5 s5 => ?_⟩
      unfold faultV
      by_cases hf : faultD ts wi e = ""
      · rw [if_pos hf]
        refine ⟨_, rfl, rfl, _, rfl, ite_nd (fun hne => absurd rfl hne) (fun _ => ?_)⟩
        refine ⟨_, _, _, rfl, fun x hx => ?_, s4.trans s5⟩
        rw [take_snoc he] at hx
        rcases List.mem_append.mp hx with hx | hx
        · exact hall x hx
        · rw [List.mem_singleton.mp hx]
          exact hf
      · rw [if_neg hf]
        refine ⟨_, rfl, rfl, _, rfl, ite_nd (fun _ => ?_) (fun e => nomatch e)⟩
        refine ⟨_, rfl, _, rfl, er2_raise (q1 (faultD ts wi e) i ?_ H5 (s14.trans s5))⟩
        rw [firstD_at (k := 0) hall he hf, Nat.zero_add]
        rfl
    · obtain ⟨y3, y4, y5, rfl, hall, s⟩ := hp'
      rw [hlen, List.take_length] at hall
      refine q0 ?_ H' (s12.trans s)
      rw [firstD_none hall]
      rfl
end
def fldsQ (sp : Addr) (xw : V) (l : Addr) : List (Str × V) := putF "_parts" (.ref l) (putF "width" xw (putF "schema" (.ref sp) []))
theorem flds_qs (sp : Addr) (xw : V) (l : Addr) : (fldsQ sp xw l).lookup ("schema" : Str) = some (V.ref sp) := rfl
theorem flds_qw (sp : Addr) (xw : V) (l : Addr) : (fldsQ sp xw l).lookup ("width" : Str) = some xw := rfl
theorem flds_qp (sp : Addr) (xw : V) (l : Addr) : (fldsQ sp xw l).lookup ("_parts" : Str) = some (V.ref l) := rfl
theorem due_none {ts : List (Str × Int)} {wd pd : PyData} (h : dueD ts wd pd = none) : ∃ wi ds, wd = .int wi ∧ pd = .list ds ∧ ∀ x ∈ ds, formD x = true := by
  unfold dueD at h
  cases ew : widthD wd with
  | none => rw [ew] at h; cases h
  | some wi =>
    have e1 : wd = .int wi := by
      unfold widthD at ew
      split at ew
      · split at ew
        · cases ew; rfl
        · cases ew
      · cases ew
    rw [ew] at h
    cases pd with
    | list ds =>
      refine ⟨wi, ds, e1, rfl, ?_⟩
      have h : (if ds.length ≤ 4000 then (firstD ts wi ds 0).map fun z => (z.1, (z.2 : Int)) else some (("parts" : Str), (-1 : Int))) = none := h
      split at h
      · have h1 : firstD ts wi ds 0 = none := by
          cases e : firstD ts wi ds 0 with
          | none => rfl
          | some z => rw [e] at h; cases h
        have all : ∀ {ds : List PyData} {k : Nat}, firstD ts wi ds k = none → ∀ x ∈ ds, formD x = true := by
          intro ds
          induction ds with
          | nil => intro k _ x hx; cases hx
          | cons d r ih =>
            intro k h x hx
            unfold firstD at h
            by_cases e : faultD ts wi d = ""
            · rw [if_pos e] at h
              rcases List.mem_cons.mp hx with rfl | hx
              · cases ef : formD x with
                | true => rfl
                | false =>
                  unfold faultD at e
                  rw [if_pos ef] at e
                  exact absurd e (by decide +kernel)
              · exact ih h x hx
            · rw [if_neg e] at h
              cases h
        exact all h1
      · cases h
    | _ => cases h
section
variable {P : Program} {w : World} {K : PySem.W.Frag} {mg : Str → Option Value} {base : Heap} {a : Nat → Addr} {d : Nat → FuncData}
def spQInit (CS CQ CE : Addr) : Sp := fun vs H Q E => ∃ (C : Addr → Prop) (n : Nat) (p dx sp : Addr) (ts : List (Str × Int)) (ks : List KeyE) (ss : List SvE) (m ms : Nat) (xw xp : V) (wd pd : PyData), vs = [.ref p, .ref sp, xw, xp] ∧ H p = some (.ins CQ dx []) ∧ Occ C H ∧ n ≤ 50 ∧ SchAt CS sp H ts ks ss m ms ∧ DA C H n xw wd ∧ DA C H n xp pd ∧
  (∀ ds, dueD ts wd pd = none → pd = .list ds → ∀ l H', H' p = some (.ins CQ dx (fldsQ sp xw l)) → DA C H' n (.ref l) (.list ds) → (∀ b o, b ≠ p → H b = some o → H' b = some o) → Q .non H') ∧ (∀ s i, dueD ts wd pd = some (s, i) → ∀ H', Same H H' → Er2 CE "part" "at" (.str s) (.int i) H' E)
theorem ok_qinit (T : Txt K mg a d) : FnOk P w K mg base (L2.CX P w) 7 (a 6600) (d 6600) ["self", "schema", "width", "parts"] (spQInit (a 42) (a 56) (a 7)) := by
  have G52 : FnOk P w K mg base (L2.CX P w) 6 (a 52) (d 52) ["schema", "width", "parts"] (spChkQ (a 42) (a 7)) := ok_chkq T
  refine T.F6600.okX sc_Question___init__ (fun vs H Q E h => ?_) (fun cdv A outer s H vs Q E hr h => ?_)
  · obtain ⟨C, n, p, dx, sp, ts, ks, ss, m, ms, xw, xp, wd, pd, rfl, _⟩ := h
    rfl
  · obtain ⟨C, n, p, dx, sp, ts, ks, ss, m, ms, xw, xp, wd, pd, rfl, hp, hO, n50, hS, hw, hpd, q0, q1⟩ := h
    refine ⟨_, (pss_cons (ps_expr (pe_call G52 (hr.mono (by decide)) (by rfl) T.g52 T.F52.kp T.b52 .nil (passes_call (takes_of rfl rfl rfl rfl) (fun _ _ _ _ h => h)) (pa_cons (pv 1) (pa_cons (pv 2) (pa_cons (pv 3) pa_nil)))))
  (pss_cons (ps_fld (pv 0) (pv 1) rfl)
  (pss_cons (ps_fld (pv 0) (pv 2) rfl)
  (pss_one (ps_fld (pv 0) (pe_lc (own := [("head", 4), ("atoms", 5)]) rfl sc_Question___init__.nd (pi_list (pv 3)) (blkOk_by (N := ["self", "schema", "width", "parts", "head", "atoms"]) (sc := defScope s_Question___init__) (by decide +kernel)) (fun _ _ _ _ _ => pg_tupK (K := K) 2 rfl (by rfl) (pgs_cons (pg_name (i := 4) sc_Question___init__.nd rfl (.inl rfl)) (pgs_cons (pg_name (i := 5) sc_Question___init__.nd rfl (.inl rfl)) pgs_nil))) (fun _ _ _ _ _ => pts_nil) (fun _ _ _ _ _ => (pe_tup (pa_cons (pv 4) (pa_cons (pe_callTy (T := "list") (r := Evl.rListS K)  call_list_of (by rfl) T.z_list (by decide +kernel) (pa_cons (pv 5) pa_nil)) pa_nil))))) rfl))))), ?_⟩
    refine ⟨_, rfl, _, rfl, _, rfl, C, n, sp, ts, ks, ss, m, ms, xw, xp, wd, pd, rfl, n50, hS, hw, hpd, fun hn H1 s1 => ?_, fun s i e H1 s1 => q1 s i e H1 s1⟩
    obtain ⟨wi, ds, rfl, rfl, hfo⟩ := due_none hn
    have hform : ∀ x ∈ ds, ∃ hs as, x = .tuple [.tuple hs, .list as] := fun x hx => by
      obtain ⟨hs, as, e, _⟩ := form_data (hfo x hx)
      exact ⟨hs, as, e⟩
    have hp1 := s1 _ _ hp
    refine ⟨_, rfl, _, rfl, p, _, dx, _, rfl, hp1, T.cl_56, T.no_56_schema, by show 0 < 1000; decide, ?_⟩
    refine ⟨_, rfl, _, rfl, p, _, dx, _, rfl, upd_same, T.cl_56, T.no_56_width, by show 1 < 1000; decide, ?_⟩
    generalize hHB : upd (upd H1 p _) p _ = HB
    have hpB : HB p = some (.ins (a 56) dx (putF "width" xw (putF "schema" (.ref sp) []))) := by rw [← hHB]; exact upd_same
    have oB : ∀ b o, b ≠ p → H1 b = some o → HB b = some o := fun b o n e => by rw [← hHB, upd_ne n, upd_ne n]; exact e
    clear hHB
    have kB : ∀ b o, ¬ C b → (∃ xs, o = HO.tup xs ∨ o = HO.lst xs) → H b = some o → HB b = some o := fun b o _ hx e => oB b o (fun e' => by
      rw [e', hp] at e
      obtain ⟨zs, hz⟩ := hx
      rcases hz with rfl | rfl <;> cases e) (s1 _ _ e)
    obtain ⟨l, xs, k, ek, rfl, nCl, hlB, l5, prB⟩ := (hpd.keep2 kB).asLst
    have hlen := Paired.length prB
    have OB : Occ C HB := fun x hx => by
      by_cases e : x = p
      · rw [e]
        exact ⟨_, hpB⟩
      · obtain ⟨o, eo⟩ := hO x hx
        exact ⟨o, oB x o e (s1 _ _ eo)⟩
    refine ⟨_, rfl, l, rfl, ⟨_, .of hlB⟩, fun D hD => ?_⟩
    have prD := paired_imp (fun _ _ h => DA.fresh hD h) prB
    refine lc_list (K := K) (a := l) (xs := xs) (fun i H' => ∃ ys, H' D = some (.lst ys) ∧ Paired (DA (fun x => C x ∨ x = D) H' k) ys (ds.take i) ∧ Same HB H') ⟨[], upd_same, .nil, same_upd hD⟩ (fun i H' _ hp' => ?_) (fun i y H' hy hp' => ?_) (fun H4 hp' => ?_)
    · obtain ⟨_, _, _, s⟩ := hp'
      exact .of (s _ _ hlB)
    · obtain ⟨ys, y1, y2, s⟩ := hp'
      obtain ⟨e, he, hye⟩ := paired_at prD hy
      have li : i < xs.length := (List.getElem?_eq_some_iff.mp hy).1
      obtain ⟨hs, as, rfl⟩ := hform e (List.mem_of_getElem? he)
      obtain ⟨b, us, k', ek', rfl, _, hb, _, pb⟩ := (hye.same s).asTup
      match us, pb with
      | [u, z], .cons hu (.cons hz .nil) =>
      obtain ⟨c, zs, k2, ek2, rfl, _, hc, c5, pc⟩ := hz.asLst
      refine ⟨b, _, rfl, .of hb, rfl, _, _, rfl, _, _, rfl, rfl, rfl, ?_⟩
      refine ⟨_, rfl, _, rfl, c, zs, rfl, .inl (.of hc), fun L hL => ⟨by show 2 ≤ sizeLine; decide, fun t ht => ?_⟩⟩
      have OB' : Occ (fun x => C x ∨ x = D) H' := fun x hx => by
        rcases hx with hx | rfl
        · exact (OB.same s) x hx
        · exact ⟨_, y1⟩
      have sL := same_upd (o := .lst zs) hL
      have st := same_upd (o := .tup [u, .ref L]) ht
      have nL := OB'.new hL
      have nt := (OB'.same sL).new ht
      subst ek'
      subst ek2
      have dL : DA (fun x => C x ∨ x = D) (upd (upd H' L (.lst zs)) t (.tup [u, .ref L])) (k2 + 1) (.ref L) (.list as) := .lst nL (st _ _ upd_same) c5 (paired_imp (fun _ _ h => (DA.same h sL).same st) pc)
      have dt : DA (fun x => C x ∨ x = D) (upd (upd H' L (.lst zs)) t (.tup [u, .ref L])) (k2 + 1 + 1) (.ref t) (.tuple [.tuple hs, .list as]) := .tup nt upd_same (by show 2 ≤ 5000; decide) (.cons ((hu.same sL).same st) (.cons dL .nil))
      have y1' := st _ _ (sL _ _ y1)
      have y2' := paired_imp (fun _ _ h => (DA.same h sL).same st) y2
      have s' := (s.trans sL).trans st
      generalize upd (upd H' L (.lst zs)) t (.tup [u, .ref L]) = H5 at dL dt y1' y2' s' ⊢
      have ly := Paired.length y2'
      rw [List.length_take] at ly
      have kp : ∀ x o', ¬ (C x ∨ x = D) → H5 x = some o' → upd H5 D (.lst (ys ++ [.ref t])) x = some o' := fun x o' hn e => by
        rw [upd_ne (fun e' => hn (.inr e'))]
        exact e
      refine ⟨_, y1', Nat.lt_of_le_of_lt (by omega : _ ≤ 5000) (by decide), ys ++ [.ref t], upd_same, ?_, fun x o' e => ?_⟩
      · rw [take_snoc he]
        exact paired_app (paired_imp (fun _ _ h => h.keep kp) y2') (.cons (dt.keep kp) .nil)
      · rw [upd_ne (ne_of_none e hD)]
        exact s' _ _ e
    obtain ⟨ys, y1, y2, s4⟩ := hp'
    rw [hlen, List.take_length] at y2
    have y3 : Paired (DA C H4 k) ys ds := paired_imp (fun _ _ h => DA.weak (fun x hx => .inl hx) h) y2
    have nCD : ¬ C D := OB.new hD
    have ly := Paired.length y3
    have hp4 := s4 _ _ hpB
    have nDp : D ≠ p := (ne_of_none hpB hD).symm
    refine ⟨_, rfl, p, _, dx, _, rfl, hp4, T.cl_56, T.no_56__parts, by show 2 < 1000; decide, ?_⟩
    have k5 : ∀ b o, ¬ C b → (∃ xs, o = HO.tup xs ∨ o = HO.lst xs) → H4 b = some o → upd H4 p (.ins (a 56) dx (fldsQ sp xw D)) b = some o := fun b o _ hx e => by
      rw [upd_ne fun e' => by
        rw [e', hp4] at e
        obtain ⟨zs, hz⟩ := hx
        rcases hz with rfl | rfl <;> cases e]
      exact e
    refine q0 ds hn rfl D _ upd_same (ek ▸ (DA.lst nCD y1 (by omega) y3).keep2 k5) fun b o nb e => ?_
    rw [upd_ne nb]
    exact s4 _ _ (oB b o nb (s1 _ _ e))
/-- a question, as data -/
def QAt (CQ p sp : Addr) (C : Addr → Prop) (n : Nat) (H : Hp) (wi : Int) (ds : List PyData) : Prop := ∃ dx l, H p = some (.ins CQ dx (fldsQ sp (.int wi) l)) ∧ DA C H n (.ref l) (.list ds) ∧ ∀ x ∈ ds, ∃ hs as, x = .tuple [.tuple hs, .list as]
def spPartL (CQ : Addr) : Sp := fun vs H Q _ => ∃ (C : Addr → Prop) (n : Nat) (p sp : Addr) (wi : Int) (ds : List PyData), vs = [.ref p] ∧ Occ C H ∧ QAt CQ p sp C n H wi ds ∧ ∀ l H', DA C H' n (.ref l) (.list ds) → Same H H' → Q (.ref l) H'
theorem ok_partl (T : Txt K mg a d) : FnOk P w K mg base CX0 1 (a 6601) (d 6601) ["self"] (spPartL (a 56)) := by
  refine T.F6601.ok sc_Question_part_list (fun vs H Q E h => ?_) (fun cdv A outer s H vs Q E hr h => ?_)
  · obtain ⟨C, n, p, sp, wi, ds, rfl, _⟩ := h
    rfl
  · obtain ⟨C, n, p, sp, wi, ds, rfl, OB, ⟨dx, l0, hp, hl0, hform⟩, q⟩ := h
    refine ⟨_, (pss_one (ps_ret (pe_lc (own := [("head", 1), ("atoms", 2)]) rfl sc_Question_part_list.nd (pi_list (pe_fld (pv 0) rfl)) (blkOk_by (N := ["self", "head", "atoms"]) (sc := defScope s_Question_part_list) (by decide +kernel)) (fun _ _ _ _ _ => pg_tupK (K := K) 2 rfl (by rfl) (pgs_cons (pg_name (i := 1) sc_Question_part_list.nd rfl (.inl rfl)) (pgs_cons (pg_name (i := 2) sc_Question_part_list.nd rfl (.inl rfl)) pgs_nil))) (fun _ _ _ _ _ => pts_nil) (fun _ _ _ _ _ => (pe_tup (pa_cons (pv 1) (pa_cons (pe_callTy (T := "list") (r := Evl.rListS K)  call_list_of (by rfl) T.z_list (by decide +kernel) (pa_cons (pv 2) pa_nil)) pa_nil))))))), ?_⟩
    obtain ⟨l, xs, k, ek, e0, nCl, hlB, l5, prB⟩ := hl0.asLst
    cases e0
    have hlen := Paired.length prB
    refine ⟨_, rfl, p, _, dx, _, _, rfl, hp, T.cl_56, T.no_56__parts, flds_qp _ _ _, l0, rfl, ⟨_, .of hlB⟩, fun D hD => ?_⟩
    have prD := paired_imp (fun _ _ h => DA.fresh hD h) prB
    refine lc_list (K := K) (a := l0) (xs := xs) (fun i H' => ∃ ys, H' D = some (.lst ys) ∧ Paired (DA (fun x => C x ∨ x = D) H' k) ys (ds.take i) ∧ Same H H') ⟨[], upd_same, .nil, same_upd hD⟩ (fun i H' _ hp' => ?_) (fun i y H' hy hp' => ?_) (fun H4 hp' => ?_)
    · obtain ⟨_, _, _, s⟩ := hp'
      exact .of (s _ _ hlB)
    · obtain ⟨ys, y1, y2, s⟩ := hp'
      obtain ⟨e, he, hye⟩ := paired_at prD hy
      have li : i < xs.length := (List.getElem?_eq_some_iff.mp hy).1
      obtain ⟨hs, as, rfl⟩ := hform e (List.mem_of_getElem? he)
      obtain ⟨b, us, k', ek', rfl, _, hb, _, pb⟩ := (hye.same s).asTup
      match us, pb with
      | [u, z], .cons hu (.cons hz .nil) =>
      obtain ⟨c, zs, k2, ek2, rfl, _, hc, c5, pc⟩ := hz.asLst
      refine ⟨b, _, rfl, .of hb, rfl, _, _, rfl, _, _, rfl, rfl, rfl, ?_⟩
      refine ⟨_, rfl, _, rfl, c, zs, rfl, .inl (.of hc), fun L hL => ⟨by show 2 ≤ sizeLine; decide, fun t ht => ?_⟩⟩
      have OB' : Occ (fun x => C x ∨ x = D) H' := fun x hx => by
        rcases hx with hx | rfl
        · exact (OB.same s) x hx
        · exact ⟨_, y1⟩
      have sL := same_upd (o := .lst zs) hL
      have st := same_upd (o := .tup [u, .ref L]) ht
      have nL := OB'.new hL
      have nt := (OB'.same sL).new ht
      subst ek'
      subst ek2
      have dL : DA (fun x => C x ∨ x = D) (upd (upd H' L (.lst zs)) t (.tup [u, .ref L])) (k2 + 1) (.ref L) (.list as) := .lst nL (st _ _ upd_same) c5 (paired_imp (fun _ _ h => (DA.same h sL).same st) pc)
      have dt : DA (fun x => C x ∨ x = D) (upd (upd H' L (.lst zs)) t (.tup [u, .ref L])) (k2 + 1 + 1) (.ref t) (.tuple [.tuple hs, .list as]) := .tup nt upd_same (by show 2 ≤ 5000; decide) (.cons ((hu.same sL).same st) (.cons dL .nil))
      have y1' := st _ _ (sL _ _ y1)
      have y2' := paired_imp (fun _ _ h => (DA.same h sL).same st) y2
      have s' := (s.trans sL).trans st
      generalize upd (upd H' L (.lst zs)) t (.tup [u, .ref L]) = H5 at dL dt y1' y2' s' ⊢
      have ly := Paired.length y2'
      rw [List.length_take] at ly
      have kp : ∀ x o', ¬ (C x ∨ x = D) → H5 x = some o' → upd H5 D (.lst (ys ++ [.ref t])) x = some o' := fun x o' hn e => by
        rw [upd_ne (fun e' => hn (.inr e'))]
        exact e
      refine ⟨_, y1', Nat.lt_of_le_of_lt (by omega : _ ≤ 5000) (by decide), ys ++ [.ref t], upd_same, ?_, fun x o' e => ?_⟩
      · rw [take_snoc he]
        exact paired_app (paired_imp (fun _ _ h => h.keep kp) y2') (.cons (dt.keep kp) .nil)
      · rw [upd_ne (ne_of_none e hD)]
        exact s' _ _ e
    obtain ⟨ys, y1, y2, s4⟩ := hp'
    rw [hlen, List.take_length] at y2
    have y3 : Paired (DA C H4 k) ys ds := paired_imp (fun _ _ h => DA.weak (fun x hx => .inl hx) h) y2
    have nCD : ¬ C D := OB.new hD
    have ly := Paired.length y3
    exact q D H4 (ek ▸ DA.lst nCD y1 (by omega) y3) s4
end
theorem catA_all {K : PySem.W.Frag} {H : Hp} {a b : Addr} {xs ys : List V} {Q : VK} (ha : H a = some (.tup xs)) (hb : H b = some (.tup ys)) (hl : xs.length + ys.length ≤ sizeLine) (q : ∀ c H', H' c = some (.tup (xs ++ ys)) → Same H H' → (c = a ∨ c = b ∨ H c = none) → Q (.ref c) H') : rCatA K (.ref a) (.ref b) H Q :=
  ⟨a, b, xs, ys, rfl, rfl, .of ha, .of hb, hl, fun e => q b H (by rw [e]; exact hb) (Same.refl H) (.inr (.inl rfl)), fun _ e => q a H (by rw [e, List.append_nil]; exact ha) (Same.refl H) (.inl rfl), fun _ _ c hc => q c _ upd_same (same_upd hc) (.inr (.inr hc))⟩
theorem slA_all {K : PySem.W.Frag} {H : Hp} {a : Addr} {xs : List V} {lo hi : Option Int} {Q : VK} (ha : H a = some (.tup xs)) (q : ∀ c H', H' c = some (.tup (cutV xs lo hi)) → Same H H' → (c = a ∨ H c = none) → Q (.ref c) H') : rSlA K (.ref a) lo hi H Q :=
  ⟨a, xs, rfl, .of ha, fun e => q a H (by
    have : cutV xs lo hi = xs := by
      unfold cutV
      rw [e.1, e.2]
      simp
    rw [this]
    exact ha) (Same.refl H) (.inl rfl), fun _ c hc => q c _ upd_same (same_upd hc) (.inr hc)⟩
theorem cutV_len (xs : List V) (lo hi : Option Int) : (cutV xs lo hi).length ≤ xs.length := by
  unfold cutV
  simp only [List.length_take, List.length_drop]
  omega
theorem paired_cut {F : V → PyData → Prop} {xs : List V} {ds : List PyData} (h : Paired F xs ds) (lo hi : Option Int) : ∃ es, Paired F (cutV xs lo hi) es := ⟨_, paired_take _ (paired_drop _ h)⟩
section
variable {P : Program} {w : World} {K : PySem.W.Frag} {mg : Str → Option Value} {base : Heap} {a : Nat → Addr} {d : Nat → FuncData}
def spPut : Sp := fun vs H Q _ => ∃ (C : Addr → Prop) (n : Nat) (p : Addr) (xs : List V) (ds : List PyData) (i : Int) (x : V) (e : PyData), vs = [.ref p, .int i, x] ∧ ¬ C p ∧ H p = some (.tup xs) ∧ Paired (DA C H n) xs ds ∧ xs.length ≤ 900 ∧ DA C H n x e ∧ Occ C H ∧ ∀ c ys es H', ¬ C c → H' c = some (.tup ys) → Paired (DA C H' n) ys es → ys.length ≤ 2 * xs.length + 1 → Same H H' → Q (.ref c) H'
theorem ok_put (T : Txt K mg a d) : FnOk P w K mg base CX0 1 (a 71) (d 71) ["_law_terms", "_law_at", "_law_term_here"] spPut := by
  refine T.F71.ok sc__law_put (fun vs H Q E h => ?_) (fun cdv A outer s H vs Q E hr h => ?_)
  · obtain ⟨C, n, p, xs, ds, i, x, e, rfl, _⟩ := h
    rfl
  · obtain ⟨C, n, p, xs, ds, i, x, e, rfl, nC, hp, pr, l1, hx, hO, q⟩ := h
    refine ⟨_, (pss_one (ps_ret (pe_op op_catA (pe_op op_catA (pe_slice sl_tupA (pv 0) po_none (po_some (pv 1))) (pe_tup (pa_cons (pv 2) pa_nil))) (pe_slice sl_tupA (pv 0) (po_some (pe_op op_add (pv 1) pe_int)) po_none)))), ?_⟩
    refine ⟨_, rfl, _, rfl, _, rfl, slA_all hp fun c1 H1 e1 s1 d1 => ⟨_, rfl, by show 1 ≤ sizeLine; decide, fun c2 h2 => ?_⟩⟩
    have s2 := same_upd (o := .tup [x]) h2
    have e2 : upd H1 c2 (.tup [x]) c2 = some (.tup [x]) := upd_same
    have e12 := s2 _ _ e1
    have n2 : ¬ C c2 := (hO.same s1).new h2
    have n1 : ¬ C c1 := by
      rcases d1 with rfl | h
      · exact nC
      · exact hO.new h
    have s12 := s1.trans s2
    generalize upd H1 c2 (.tup [x]) = H2 at s2 e2 e12 s12 ⊢
    have cl1 := cutV_len xs none (some i)
    refine catA_all e12 e2 (by show _ + 1 ≤ sizeLine; exact Nat.le_of_lt (small1000 (by omega))) fun c3 H3 e3 s3 d3 => ?_
    have n3 : ¬ C c3 := by
      rcases d3 with rfl | rfl | h
      · exact n1
      · exact n2
      · exact (hO.same s12).new h
    have s13 := s12.trans s3
    refine ⟨_, rfl, _, rfl, _, _, rfl, rfl, _, rfl, ?_⟩
    unfold tNoPart
    refine slA_all (s13 _ _ hp) fun c4 H4 e4 s4 d4 => ?_
    have cl2 := cutV_len xs (some (i + 1)) none
    have s14 := s13.trans s4
    have n4 : ¬ C c4 := by
      rcases d4 with rfl | h
      · exact nC
      · exact (hO.same s13).new h
    refine catA_all (s4 _ _ e3) e4 (Nat.le_trans (by rw [List.length_append]; show _ + 1 + _ ≤ 3000; omega) (by decide)) fun c5 H5 e5 s5 d5 => ?_
    have n5 : ¬ C c5 := by
      rcases d5 with rfl | rfl | h
      · exact n3
      · exact n4
      · exact (hO.same s14).new h
    have s15 := s14.trans s5
    have pr5 := paired_imp (fun _ _ h => DA.same h s15) pr
    obtain ⟨es1, p1⟩ := paired_cut pr5 none (some i)
    obtain ⟨es2, p2⟩ := paired_cut pr5 (some (i + 1)) none
    exact q c5 _ _ H5 n5 e5 (paired_app (paired_app p1 (.cons (hx.same s15) .nil)) p2) (by rw [List.length_append, List.length_append]; show _ + 1 + _ ≤ _; omega) s15
def spBadTerm : Sp := fun vs H Q _ => ∃ (C : Addr → Prop) (p : Addr), vs = [.ref p] ∧ C p ∧ Cell H p ∧ Occ C H ∧ ∀ (v : V) (d : PyData) (H' : Hp), DA C H' 1 v d → Chs p H H' → Q v H'
theorem ok_bad_term (T : Txt K mg a d) : FnOk P w K mg base CX0 2 (a 70) (d 70) ["_law_state_here"] spBadTerm := by
  have G59 : FnOk P w K mg base CX0 1 (a 59) (d 59) ["_law_state_here", "_law_many_here"] spPick2 := ok_pick2 T
  refine T.F70.ok sc__law_bad_term (fun vs H Q E h => ?_) (fun cdv A outer s H vs Q E hr h => ?_)
  · obtain ⟨C, p, rfl, _⟩ := h
    rfl
  · obtain ⟨C, p, rfl, hc, hP, hO, q⟩ := h
    refine ⟨_, (pss_cons (ps_set (i := 1) sc__law_bad_term.nd rfl (.inl rfl) (pe_lst (pa_cons pe_bl (pa_cons pe_non (pa_cons pe_str (pa_cons pe_str (pa_cons pe_str (pa_cons (pe_op op_pow pe_int pe_int) (pa_cons (pe_un un_neg (pe_op op_pow pe_int pe_int)) (pa_cons (pe_tup pa_nil) (pa_cons (pe_tup (pa_cons (pe_un un_neg pe_int) pa_nil)) (pa_cons (pe_tup (pa_cons pe_bl pa_nil)) (pa_cons (pe_tup (pa_cons pe_int (pa_cons pe_int pa_nil))) pa_nil)))))))))))))
  (pss_cons (ps_set (i := 1) sc__law_bad_term.nd rfl (.inl rfl) (pe_op op_cat (pv 1) (pe_lst (pa_cons (pe_tup (pa_cons pe_str pa_nil)) (pa_cons (pe_tup (pa_cons (pe_op op_pow pe_int pe_int) pa_nil)) (pa_cons (pe_lst (pa_cons pe_int pa_nil)) (pa_cons (pe_tup (pa_cons pe_non pa_nil)) pa_nil)))))))
  (pss_one (ps_ret (pe_ix ix_list (pv 1) (pe_call G59 (hr.mono (by decide)) (by rfl) T.g59 T.F59.kp T.b59 .nil pass0 (pa_cons (pv 0) (pa_cons (pe_callB (id := "len")  call_len_seq (by rfl) T.z_len (by decide +kernel) (pa_cons (pv 1) pa_nil)) pa_nil))) (fun _ _ => rfl)))))), ?_⟩
    have lows : ∀ s ∈ (["", "A", "abcdefghi", "a"] : List Str), s.length ≤ 1000 ∧ ∀ c ∈ s.cps.toList, c < 128 := by
      have h : ((["", "A", "abcdefghi", "a"] : List Str).all fun s => decide (s.length ≤ 1000) && s.cps.toList.all fun c => decide (c < 128)) = true := by decide +kernel
      intro s hs
      have := List.all_eq_true.mp h s hs
      rw [Bool.and_eq_true] at this
      exact ⟨of_decide_eq_true this.1, fun c hc => of_decide_eq_true (List.all_eq_true.mp this.2 c hc)⟩
    have sc : ∀ s ∈ (["", "A", "abcdefghi", "a"] : List Str), Sc (.str s) (.str s) := fun s hs => .str s (lows s hs).1 (lows s hs).2
    refine ⟨_, _, rfl, rfl, ⟨by decide, by decide, by decide⟩, _, _, rfl, rfl, ⟨by decide, by decide, by decide⟩, _, rfl, Nat.zero_le _, fun t1 h1 => ?_⟩
    have s1 := same_upd (o := .tup []) h1
    have e1 : upd H t1 (.tup []) t1 = some (.tup []) := upd_same
    have n1 := hO.new h1
    generalize upd H t1 (.tup []) = H1 at s1 e1 ⊢
    refine ⟨_, rfl, by show 1 ≤ sizeLine; decide, fun t2 h2 => ?_⟩
    have s2 := s1.trans (same_upd (o := .tup [.int (-1)]) h2)
    have e2 : upd H1 t2 (.tup [.int (-1)]) t2 = some (.tup [.int (-1)]) := upd_same
    have e1 := same_upd (o := .tup [.int (-1)]) h2 _ _ e1
    have n2 := (hO.same s1).new h2
    generalize upd H1 t2 (.tup [.int (-1)]) = H2 at s2 e1 e2 ⊢
    refine ⟨by show 1 ≤ sizeLine; decide, fun t3 h3 => ?_⟩
    have z3 := same_upd (o := HO.tup [.bl true]) h3
    have s3 := s2.trans z3
    have e3 : upd H2 t3 (HO.tup [.bl true]) t3 = some (HO.tup [.bl true]) := upd_same
    have e1 := z3 _ _ e1
    have e2 := z3 _ _ e2
    have n3 := (hO.same s2).new h3
    generalize upd H2 t3 (HO.tup [.bl true]) = H3 at s3 e1 e2 e3 ⊢
    clear z3
    refine ⟨by show 2 ≤ sizeLine; decide, fun t4 h4 => ?_⟩
    have z4 := same_upd (o := HO.tup [.int 0, .int 1]) h4
    have s4 := s3.trans z4
    have e4 : upd H3 t4 (HO.tup [.int 0, .int 1]) t4 = some (HO.tup [.int 0, .int 1]) := upd_same
    have e1 := z4 _ _ e1
    have e2 := z4 _ _ e2
    have e3 := z4 _ _ e3
    have n4 := (hO.same s3).new h4
    generalize upd H3 t4 (HO.tup [.int 0, .int 1]) = H4 at s4 e1 e2 e3 e4 ⊢
    clear z4
    refine ⟨by show 11 ≤ sizeLine; decide, fun t5 h5 => ?_⟩
    have z5 := same_upd (o := HO.lst [.bl true, .non, .str "", .str "A", .str "abcdefghi", .int ((10 : Int) ^ (30 : Int).toNat), .int (-((10 : Int) ^ (30 : Int).toNat)), .ref t1, .ref t2, .ref t3, .ref t4]) h5
    have s5 := s4.trans z5
    have e5 : upd H4 t5 (HO.lst [.bl true, .non, .str "", .str "A", .str "abcdefghi", .int ((10 : Int) ^ (30 : Int).toNat), .int (-((10 : Int) ^ (30 : Int).toNat)), .ref t1, .ref t2, .ref t3, .ref t4]) t5 = some (HO.lst [.bl true, .non, .str "", .str "A", .str "abcdefghi", .int ((10 : Int) ^ (30 : Int).toNat), .int (-((10 : Int) ^ (30 : Int).toNat)), .ref t1, .ref t2, .ref t3, .ref t4]) := upd_same
    have e1 := z5 _ _ e1
    have e2 := z5 _ _ e2
    have e3 := z5 _ _ e3
    have e4 := z5 _ _ e4
    have n5 := (hO.same s4).new h5
    generalize upd H4 t5 (HO.lst [.bl true, .non, .str "", .str "A", .str "abcdefghi", .int ((10 : Int) ^ (30 : Int).toNat), .int (-((10 : Int) ^ (30 : Int).toNat)), .ref t1, .ref t2, .ref t3, .ref t4]) = H5 at s5 e1 e2 e3 e4 e5 ⊢
    clear z5
    refine ⟨_, rfl, by show 1 ≤ sizeLine; decide, fun t6 h6 => ?_⟩
    have z6 := same_upd (o := HO.tup [.str "a"]) h6
    have s6 := s5.trans z6
    have e6 : upd H5 t6 (HO.tup [.str "a"]) t6 = some (HO.tup [.str "a"]) := upd_same
    have e1 := z6 _ _ e1
    have e2 := z6 _ _ e2
    have e3 := z6 _ _ e3
    have e4 := z6 _ _ e4
    have e5 := z6 _ _ e5
    have n6 := (hO.same s5).new h6
    generalize upd H5 t6 (HO.tup [.str "a"]) = H6 at s6 e1 e2 e3 e4 e5 e6 ⊢
    clear z6
    refine ⟨_, _, rfl, rfl, ⟨by decide, by decide, by decide⟩, by show 1 ≤ sizeLine; decide, fun t7 h7 => ?_⟩
    have z7 := same_upd (o := HO.tup [.int ((10 : Int) ^ (30 : Int).toNat)]) h7
    have s7 := s6.trans z7
    have e7 : upd H6 t7 (HO.tup [.int ((10 : Int) ^ (30 : Int).toNat)]) t7 = some (HO.tup [.int ((10 : Int) ^ (30 : Int).toNat)]) := upd_same
    have e1 := z7 _ _ e1
    have e2 := z7 _ _ e2
    have e3 := z7 _ _ e3
    have e4 := z7 _ _ e4
    have e5 := z7 _ _ e5
    have e6 := z7 _ _ e6
    have n7 := (hO.same s6).new h7
    generalize upd H6 t7 (HO.tup [.int ((10 : Int) ^ (30 : Int).toNat)]) = H7 at s7 e1 e2 e3 e4 e5 e6 e7 ⊢
    clear z7
    refine ⟨by show 1 ≤ sizeLine; decide, fun t8 h8 => ?_⟩
    have z8 := same_upd (o := HO.lst [.int 0]) h8
    have s8 := s7.trans z8
    have e8 : upd H7 t8 (HO.lst [.int 0]) t8 = some (HO.lst [.int 0]) := upd_same
    have e1 := z8 _ _ e1
    have e2 := z8 _ _ e2
    have e3 := z8 _ _ e3
    have e4 := z8 _ _ e4
    have e5 := z8 _ _ e5
    have e6 := z8 _ _ e6
    have e7 := z8 _ _ e7
    have n8 := (hO.same s7).new h8
    generalize upd H7 t8 (HO.lst [.int 0]) = H8 at s8 e1 e2 e3 e4 e5 e6 e7 e8 ⊢
    clear z8
    refine ⟨by show 1 ≤ sizeLine; decide, fun t9 h9 => ?_⟩
    have z9 := same_upd (o := HO.tup [.non]) h9
    have s9 := s8.trans z9
    have e9 : upd H8 t9 (HO.tup [.non]) t9 = some (HO.tup [.non]) := upd_same
    have e1 := z9 _ _ e1
    have e2 := z9 _ _ e2
    have e3 := z9 _ _ e3
    have e4 := z9 _ _ e4
    have e5 := z9 _ _ e5
    have e6 := z9 _ _ e6
    have e7 := z9 _ _ e7
    have e8 := z9 _ _ e8
    have n9 := (hO.same s8).new h9
    generalize upd H8 t9 (HO.tup [.non]) = H9 at s9 e1 e2 e3 e4 e5 e6 e7 e8 e9 ⊢
    clear z9
    refine ⟨by show 4 ≤ sizeLine; decide, fun t10 h10 => ?_⟩
    have z10 := same_upd (o := HO.lst [.ref t6, .ref t7, .ref t8, .ref t9]) h10
    have s10 := s9.trans z10
    have e10 : upd H9 t10 (HO.lst [.ref t6, .ref t7, .ref t8, .ref t9]) t10 = some (HO.lst [.ref t6, .ref t7, .ref t8, .ref t9]) := upd_same
    have e1 := z10 _ _ e1
    have e2 := z10 _ _ e2
    have e3 := z10 _ _ e3
    have e4 := z10 _ _ e4
    have e5 := z10 _ _ e5
    have e6 := z10 _ _ e6
    have e7 := z10 _ _ e7
    have e8 := z10 _ _ e8
    have e9 := z10 _ _ e9
    have n10 := (hO.same s9).new h10
    generalize upd H9 t10 (HO.lst [.ref t6, .ref t7, .ref t8, .ref t9]) = H10 at s10 e1 e2 e3 e4 e5 e6 e7 e8 e9 e10 ⊢
    clear z10
    refine ⟨t5, t10, _, _, rfl, rfl, e5, e10, by show 11 + 4 ≤ sizeLine; decide, fun L hL => ?_⟩
    generalize hX : ([.bl true, .non, .str "", .str "A", .str "abcdefghi", .int ((10 : Int) ^ (30 : Int).toNat), .int (-((10 : Int) ^ (30 : Int).toNat)), .ref t1, .ref t2, .ref t3, .ref t4] : List V) ++ [.ref t6, .ref t7, .ref t8, .ref t9] = X
    have lX : X.length = 15 := by rw [← hX]; rfl
    have z11 := same_upd (o := .lst X) hL
    have s11 := s10.trans z11
    have C1 : Chs p H (upd H10 L (.lst X)) := (Chs.refl hP).sm s11
    have nL := (hP.same s10).ne hL
    refine ⟨_, rfl, _, rfl, _, rfl, L, _, rfl, .inl (.of upd_same), p, (X.length : Int), rfl, C1.1, by omega, by rw [lX]; decide, fun r H12 r0 r1 C2 => ?_⟩
    obtain ⟨v, hv⟩ := at_some (xs := X) r0 r1
    refine ⟨_, _, _, _, rfl, rfl, .of (C2.at nL upd_same), hv, ?_⟩
    have fin : ∀ d : PyData, DA C H10 1 v d → Q v H12 := fun d h => q v d H12 (DA.chs (h.same z11) C2 hc) (C1.trans C2)
    have hm := atI_mem hv
    rw [← hX] at hm
    simp only [List.cons_append, List.nil_append, List.mem_cons, List.not_mem_nil, or_false] at hm
    rcases hm with rfl | rfl | rfl | rfl | rfl | rfl | rfl | rfl | rfl | rfl | rfl | rfl | rfl | rfl | rfl
    · exact fin _ (Sc.da (.bl true))
    · exact fin _ (Sc.da .non)
    · exact fin _ (Sc.da (sc _ (by simp)))
    · exact fin _ (Sc.da (sc _ (by simp)))
    · exact fin _ (Sc.da (sc _ (by simp)))
    · exact fin _ (Sc.da (.int _))
    · exact fin _ (Sc.da (.int _))
    · exact fin _ (.tup n1 e1 (Nat.zero_le _) .nil)
    · exact fin _ (.tup n2 e2 (by show 1 ≤ 5000; decide) (.cons (.int _) .nil))
    · exact fin _ (.tup n3 e3 (by show 1 ≤ 5000; decide) (.cons (.bl _) .nil))
    · exact fin _ (.tup n4 e4 (by show 2 ≤ 5000; decide) (.cons (.int _) (.cons (.int _) .nil)))
    · exact fin _ (.tup n6 e6 (by show 1 ≤ 5000; decide) (.cons (sc _ (by simp)) .nil))
    · exact fin _ (.tup n7 e7 (by show 1 ≤ 5000; decide) (.cons (.int _) .nil))
    · exact fin _ (.lst n8 e8 (by show 1 ≤ 5000; decide) (.cons (.int _) .nil))
    · exact fin _ (.tup n9 e9 (by show 1 ≤ 5000; decide) (.cons .non .nil))
end
theorem eqv_nilT {ds : List PyData} : PyData.eqv (.tuple ds) (.tuple []) = ds.isEmpty := by
  cases ds <;> simp [PyData.eqv, PyData.eqvAll]
theorem eqv_nilD {ds : List PyData} : PyData.eqv (.list ds) (.list []) = ds.isEmpty := by
  cases ds <;> simp [PyData.eqv, PyData.eqvAll]
theorem paired_rep {F : V → PyData → Prop} {x : V} {d : PyData} (h : F x d) : ∀ n : Nat, Paired F (List.replicate n [x]).flatten (List.replicate n d)
  | 0 => .nil
  | n + 1 => by
    rw [List.replicate_succ, List.replicate_succ, List.flatten_cons]
    exact .cons h (paired_rep h n)
section
variable {P : Program} {w : World} {K : PySem.W.Frag} {mg : Str → Option Value} {base : Heap} {a : Nat → Addr} {d : Nat → FuncData}
def spBadPart : Sp := fun vs H Q _ => ∃ (C : Addr → Prop) (p b : Addr) (hs as : List PyData), vs = [.ref p, .ref b] ∧ C p ∧ Cell H p ∧ Occ C H ∧ DA C H 5 (.ref b) (.tuple [.tuple hs, .list as]) ∧ hs.length ≤ 12 ∧ as.length ≤ 5 ∧ (∀ x ∈ as, atomD x = true ∧ 1 ≤ (atTerms x).length ∧ (atTerms x).length ≤ 4) ∧ ∀ (v : V) (d : PyData) (H' : Hp), DA C H' 5 v d → Chs p H H' → Q v H'
theorem ok_bad_part (T : Txt K mg a d) : FnOk P w K mg base CX0 3 (a 72) (d 72) ["_law_state_here", "_law_part_here"] spBadPart := by
  have G59 : FnOk P w K mg base CX0 1 (a 59) (d 59) ["_law_state_here", "_law_many_here"] spPick2 := ok_pick2 T
  have G70 : FnOk P w K mg base CX0 2 (a 70) (d 70) ["_law_state_here"] spBadTerm := ok_bad_term T
  have G71 : FnOk P w K mg base CX0 1 (a 71) (d 71) ["_law_terms", "_law_at", "_law_term_here"] spPut := ok_put T
  refine T.F72.ok sc__law_bad_part (fun vs H Q E h => ?_) (fun cdv A outer s H vs Q E hr h => ?_)
  · obtain ⟨C, p, b, hs, as, rfl, _⟩ := h
    rfl
  · obtain ⟨C, p, b, hs, as, rfl, hc, hP, hO, hb, h12, a5, hat, q⟩ := h
    have lows : ∀ s ∈ (["", "abcdefghij", "a"] : List Str), s.length ≤ 1000 ∧ ∀ c ∈ s.cps.toList, c < 128 := by
      have h : ((["", "abcdefghij", "a"] : List Str).all fun s => decide (s.length ≤ 1000) && s.cps.toList.all fun c => decide (c < 128)) = true := by decide +kernel
      intro s hs
      have := List.all_eq_true.mp h s hs
      rw [Bool.and_eq_true] at this
      exact ⟨of_decide_eq_true this.1, fun c hc => of_decide_eq_true (List.all_eq_true.mp this.2 c hc)⟩
    have sc : ∀ s ∈ (["", "abcdefghij", "a"] : List Str), Sc (.str s) (.str s) := fun s hs => .str s (lows s hs).1 (lows s hs).2
    refine ⟨_, (pss_cons (ps_asg (pv 1) (pg_tup rfl (pgs_cons (pg_name (i := 2) sc__law_bad_part.nd rfl (.inl rfl)) (pgs_cons (pg_name (i := 3) sc__law_bad_part.nd rfl (.inl rfl)) pgs_nil))))
  (pss_cons (ps_set (i := 4) sc__law_bad_part.nd rfl (.inl rfl) (pe_call G59 (hr.mono (by decide)) (by rfl) T.g59 T.F59.kp T.b59 .nil pass0 (pa_cons (pv 0) (pa_cons pe_int pa_nil))))
  (pss_cons (ps_set (i := 5) sc__law_bad_part.nd rfl (.inl rfl) (pe_lst (pa_cons (pe_lst (pa_cons (pv 2) (pa_cons (pv 3) pa_nil))) (pa_cons (pe_tup (pa_cons (pv 2) (pa_cons (pv 3) (pa_cons pe_int pa_nil)))) (pa_cons (pe_tup (pa_cons (pv 2) pa_nil)) (pa_cons (pe_tup (pa_cons (pe_callTy (T := "list")  call_list_of (by rfl) T.z_list (by decide +kernel) (pa_cons (pv 2) pa_nil)) (pa_cons (pv 3) pa_nil))) (pa_cons (pe_tup (pa_cons (pv 2) (pa_cons (pe_callTy (T := "tuple")  call_tuple_of (by rfl) T.z_tuple (by decide +kernel) (pa_cons (pv 3) pa_nil)) pa_nil))) (pa_cons pe_non pa_nil))))))))
  (pss_cons (ps_if (pt_cmpR op_lt (pv 4) pe_int (nomark _))
    (pss_one (ps_ret (pe_ix ix_list (pv 5) (pv 4) (fun _ _ => rfl))))
    pss_nil)
  (pss_cons (ps_if (pt_cmpR op_eq (pv 4) pe_int (nomark _))
    (pss_one (ps_ret (pe_tup (pa_cons (pv 2) (pa_cons (pe_op op_cat (pv 3) (pe_op op_rep (pe_lst (pa_cons (pe_tup (pa_cons pe_str (pa_cons (pe_tup pa_nil) pa_nil))) pa_nil)) pe_int)) pa_nil)))))
    pss_nil)
  (pss_cons (ps_if (pt_cmpR op_eq (pv 4) pe_int (nomark _))
    (pss_one (ps_ret (pe_tup (pa_cons (pe_op op_catA (pv 2) (pe_tup (pa_cons (pe_tup (pa_cons pe_int pa_nil)) pa_nil))) (pa_cons (pv 3) pa_nil)))))
    pss_nil)
  (Evl.pss_cut (ps_if (PW.pt (pw_and (pt_cmpR op_eq (pv 4) pe_int (nomark _)) (pw_and1 (pt_cmpR (op_neD (hu_of64 hr)) (pv 2) (pe_tup pa_nil) (nomark _)))))
    (pss_one (ps_ret (pe_tup (pa_cons (pe_call G71 (hr.mono (by decide)) (by rfl) T.g71 T.F71.kp T.b71 .nil pass0 (pa_cons (pv 2) (pa_cons (pe_call G59 (hr.mono (by decide)) (by rfl) T.g59 T.F59.kp T.b59 .nil pass0 (pa_cons (pv 0) (pa_cons (pe_callB (id := "len")  call_len_seq (by rfl) T.z_len (by decide +kernel) (pa_cons (pv 2) pa_nil)) pa_nil))) (pa_cons (pe_call G70 (hr.mono (by decide)) (by rfl) T.g70 T.F70.kp T.b70 .nil pass0 (pa_cons (pv 0) pa_nil)) pa_nil)))) (pa_cons (pv 3) pa_nil)))))
    pss_nil)
  (Evl.pss_cut (ps_if (PW.pt (pw_and (pt_cmpR op_eq (pv 4) pe_int (nomark _)) (pw_and1 (pt_cmpR (op_neD (hu_of64 hr)) (pv 2) (pe_tup pa_nil) (nomark _)))))
    (pss_one (ps_ret (pe_tup (pa_cons (pe_call G71 (hr.mono (by decide)) (by rfl) T.g71 T.F71.kp T.b71 .nil pass0 (pa_cons (pv 2) (pa_cons (pe_call G59 (hr.mono (by decide)) (by rfl) T.g59 T.F59.kp T.b59 .nil pass0 (pa_cons (pv 0) (pa_cons (pe_callB (id := "len")  call_len_seq (by rfl) T.z_len (by decide +kernel) (pa_cons (pv 2) pa_nil)) pa_nil))) (pa_cons (pe_tup (pa_cons (pe_op op_add pe_int (pe_call G59 (hr.mono (by decide)) (by rfl) T.g59 T.F59.kp T.b59 .nil pass0 (pa_cons (pv 0) (pa_cons (pe_op op_pow pe_int pe_int) pa_nil)))) pa_nil)) pa_nil)))) (pa_cons (pv 3) pa_nil)))))
    pss_nil)
  (pss_cons (ps_if (pt_cmpR (op_eqD (hu_of64 hr)) (pv 3) (pe_lst pa_nil) (nomark _))
    (pss_one (ps_ret (pe_tup (pa_cons (pv 2) (pa_cons (pe_lst (pa_cons (pe_ix ix_list (pe_lst (pa_cons (pe_tup (pa_cons pe_str (pa_cons (pe_tup pa_nil) pa_nil))) (pa_cons (pe_tup (pa_cons pe_str pa_nil)) (pa_cons (pe_lst (pa_cons pe_str (pa_cons (pe_tup pa_nil) pa_nil))) (pa_cons (pe_tup (pa_cons pe_str (pa_cons (pe_lst pa_nil) pa_nil))) (pa_cons (pe_tup (pa_cons pe_int (pa_cons (pe_tup pa_nil) pa_nil))) (pa_cons (pe_tup (pa_cons pe_non (pa_cons (pe_tup pa_nil) pa_nil))) pa_nil))))))) (pe_call G59 (hr.mono (by decide)) (by rfl) T.g59 T.F59.kp T.b59 .nil pass0 (pa_cons (pv 0) (pa_cons pe_int pa_nil))) (fun _ _ => rfl)) pa_nil)) pa_nil)))))
    pss_nil)
  (pss_cons (ps_set (i := 6) sc__law_bad_part.nd rfl (.inl rfl) (pe_call G59 (hr.mono (by decide)) (by rfl) T.g59 T.F59.kp T.b59 .nil pass0 (pa_cons (pv 0) (pa_cons (pe_callB (id := "len")  call_len_seq (by rfl) T.z_len (by decide +kernel) (pa_cons (pv 3) pa_nil)) pa_nil))))
  (pss_cons (ps_asg (pe_ix ix_list (pv 3) (pv 6) (fun _ _ => rfl)) (pg_tup rfl (pgs_cons (pg_name (i := 7) sc__law_bad_part.nd rfl (.inl rfl)) (pgs_cons (pg_name (i := 8) sc__law_bad_part.nd rfl (.inl rfl)) pgs_nil))))
  (Evl.pss_cut (ps_if (pt_cmpR op_eq (pv 4) pe_int (nomark _))
    (pss_one (ps_set (i := 7) sc__law_bad_part.nd rfl (.inl rfl) (pe_ix ix_list (pe_lst (pa_cons pe_str (pa_cons pe_str (pa_cons pe_int (pa_cons pe_non (pa_cons (pe_tup (pa_cons pe_str pa_nil)) pa_nil)))))) (pe_call G59 (hr.mono (by decide)) (by rfl) T.g59 T.F59.kp T.b59 .nil pass0 (pa_cons (pv 0) (pa_cons pe_int pa_nil))) (fun _ _ => rfl))))
    pss_nil)
  (Evl.pss_cut (ps_if (pt_cmpR op_eq (pv 4) pe_int (nomark _))
    (pss_one (ps_set (i := 8) sc__law_bad_part.nd rfl (.inl rfl) (pe_call G71 (hr.mono (by decide)) (by rfl) T.g71 T.F71.kp T.b71 .nil pass0 (pa_cons (pv 8) (pa_cons (pe_call G59 (hr.mono (by decide)) (by rfl) T.g59 T.F59.kp T.b59 .nil pass0 (pa_cons (pv 0) (pa_cons (pe_callB (id := "len")  call_len_seq (by rfl) T.z_len (by decide +kernel) (pa_cons (pv 8) pa_nil)) pa_nil))) (pa_cons (pe_call G70 (hr.mono (by decide)) (by rfl) T.g70 T.F70.kp T.b70 .nil pass0 (pa_cons (pv 0) pa_nil)) pa_nil))))))
    pss_nil)
  (Evl.pss_cut (ps_set (i := 9) sc__law_bad_part.nd rfl (.inl rfl) (pe_tup (pa_cons (pv 7) (pa_cons (pe_ifExp (pt_cmpR op_eq (pv 4) pe_int (nomark _)) (pe_slice sl_tupA (pv 8) (po_some pe_int) po_none) (pv 8)) pa_nil))))
  (Evl.pss_cut (ps_if (pt_cmpR op_lt (pv 4) pe_int (nomark _))
    (pss_one (ps_set (i := 9) sc__law_bad_part.nd rfl (.inl rfl) (pe_ix ix_list (pe_lst (pa_cons (pe_lst (pa_cons (pv 7) (pa_cons (pv 8) pa_nil))) (pa_cons (pe_tup (pa_cons (pv 7) (pa_cons (pv 8) (pa_cons pe_int pa_nil)))) (pa_cons (pe_tup (pa_cons (pv 7) (pa_cons (pe_callTy (T := "list")  call_list_of (by rfl) T.z_list (by decide +kernel) (pa_cons (pv 8) pa_nil)) pa_nil))) (pa_cons (pv 7) pa_nil))))) (pe_call G59 (hr.mono (by decide)) (by rfl) T.g59 T.F59.kp T.b59 .nil pass0 (pa_cons (pv 0) (pa_cons pe_int pa_nil))) (fun _ _ => rfl))))
    pss_nil)
  (pss_one (ps_ret (pe_tup (pa_cons (pv 2) (pa_cons (pe_op op_cat (pe_op op_cat (pe_slice sl_list (pv 3) po_none (po_some (pv 6))) (pe_lst (pa_cons (pv 9) pa_nil))) (pe_slice sl_list (pv 3) (po_some (pe_op op_add (pv 6) pe_int)) po_none)) pa_nil)))))))))))))))))))), ?_⟩
    obtain ⟨b', xs, k, ek, e0, _, hbt, _, pb⟩ := hb.asTup
    cases e0
    cases ek
    match xs, pb with
    | [x, y], .cons hx (.cons hy .nil) =>
    obtain ⟨g, gs, k, ek, rfl, nCg, hg0, g5, pg0⟩ := hx.asTup
    cases ek
    obtain ⟨A0, zs, k, ek, rfl, nCA, hA0, z5, pA0⟩ := hy.asLst
    cases ek
    have hlg := Paired.length pg0
    have hlz := Paired.length pA0
    have ngp : g ≠ p := fun e => nCg (e ▸ hc)
    have nAp : A0 ≠ p := fun e => nCA (e ▸ hc)
    refine ⟨_, rfl, b, _, rfl, .of hbt, rfl, _, _, rfl, _, _, rfl, rfl, ?_⟩
    refine ⟨_, rfl, p, 13, rfl, hP, by decide, by decide, fun kd G0 kd0 kd1 C1 => ?_⟩
    have hg := C1.at ngp hg0
    have hA := C1.at nAp hA0
    have dg := DA.chs hx C1 hc
    have dA := DA.chs hy C1 hc
    have pg := paired_imp (fun _ _ h => DA.chs h C1 hc) pg0
    have pA := paired_imp (fun _ _ h => DA.chs h C1 hc) pA0
    have hO1 := hO.chs C1
    have s0 := Same.refl G0
    clear hx hy pg0 pA0 hg0 hA0 hbt hb
    refine ⟨_, rfl, _, rfl, by show 2 ≤ sizeLine; decide, fun t1 h1 => ?_⟩
    have z1 := same_upd (o := HO.lst [.ref g, .ref A0]) h1
    have s1 := s0.trans z1
    have e1 : upd G0 t1 (HO.lst [.ref g, .ref A0]) t1 = some (HO.lst [.ref g, .ref A0]) := upd_same
    have hg := z1 _ _ hg
    have hA := z1 _ _ hA
    have n1 := (hO1.same s0).new h1
    generalize upd G0 t1 (HO.lst [.ref g, .ref A0]) = G1 at s1 hg hA e1 ⊢
    clear z1 h1
    refine ⟨_, rfl, _, rfl, by show 3 ≤ sizeLine; decide, fun t2 h2 => ?_⟩
    have z2 := same_upd (o := HO.tup [.ref g, .ref A0, .int 0]) h2
    have s2 := s1.trans z2
    have e2 : upd G1 t2 (HO.tup [.ref g, .ref A0, .int 0]) t2 = some (HO.tup [.ref g, .ref A0, .int 0]) := upd_same
    have hg := z2 _ _ hg
    have hA := z2 _ _ hA
    have e1 := z2 _ _ e1
    have n2 := (hO1.same s1).new h2
    generalize upd G1 t2 (HO.tup [.ref g, .ref A0, .int 0]) = G2 at s2 hg hA e1 e2 ⊢
    clear z2 h2
    refine ⟨_, rfl, by show 1 ≤ sizeLine; decide, fun t3 h3 => ?_⟩
    have z3 := same_upd (o := HO.tup [.ref g]) h3
    have s3 := s2.trans z3
    have e3 : upd G2 t3 (HO.tup [.ref g]) t3 = some (HO.tup [.ref g]) := upd_same
    have hg := z3 _ _ hg
    have hA := z3 _ _ hA
    have e1 := z3 _ _ e1
    have e2 := z3 _ _ e2
    have n3 := (hO1.same s2).new h3
    generalize upd G2 t3 (HO.tup [.ref g]) = G3 at s3 hg hA e1 e2 e3 ⊢
    clear z3 h3
    refine ⟨_, rfl, g, gs, rfl, .inr (.of hg), fun t4 h4 => ?_⟩
    have z4 := same_upd (o := HO.lst gs) h4
    have s4 := s3.trans z4
    have e4 : upd G3 t4 (HO.lst gs) t4 = some (HO.lst gs) := upd_same
    have hg := z4 _ _ hg
    have hA := z4 _ _ hA
    have e1 := z4 _ _ e1
    have e2 := z4 _ _ e2
    have e3 := z4 _ _ e3
    have n4 := (hO1.same s3).new h4
    generalize upd G3 t4 (HO.lst gs) = G4 at s4 hg hA e1 e2 e3 e4 ⊢
    clear z4 h4
    refine ⟨_, rfl, by show 2 ≤ sizeLine; decide, fun t5 h5 => ?_⟩
    have z5 := same_upd (o := HO.tup [.ref t4, .ref A0]) h5
    have s5 := s4.trans z5
    have e5 : upd G4 t5 (HO.tup [.ref t4, .ref A0]) t5 = some (HO.tup [.ref t4, .ref A0]) := upd_same
    have hg := z5 _ _ hg
    have hA := z5 _ _ hA
    have e1 := z5 _ _ e1
    have e2 := z5 _ _ e2
    have e3 := z5 _ _ e3
    have e4 := z5 _ _ e4
    have n5 := (hO1.same s4).new h5
    generalize upd G4 t5 (HO.tup [.ref t4, .ref A0]) = G5 at s5 hg hA e1 e2 e3 e4 e5 ⊢
    clear z5 h5
    refine ⟨_, rfl, _, rfl, A0, zs, rfl, .inl ⟨.of hA, fun t6 h6 => ?_⟩⟩
    have z6 := same_upd (o := HO.tup zs) h6
    have s6 := s5.trans z6
    have e6 : upd G5 t6 (HO.tup zs) t6 = some (HO.tup zs) := upd_same
    have hg := z6 _ _ hg
    have hA := z6 _ _ hA
    have e1 := z6 _ _ e1
    have e2 := z6 _ _ e2
    have e3 := z6 _ _ e3
    have e4 := z6 _ _ e4
    have e5 := z6 _ _ e5
    have n6 := (hO1.same s5).new h6
    generalize upd G5 t6 (HO.tup zs) = G6 at s6 hg hA e1 e2 e3 e4 e5 e6 ⊢
    clear z6 h6
    refine ⟨by show 2 ≤ sizeLine; decide, fun t7 h7 => ?_⟩
    have z7 := same_upd (o := HO.tup [.ref g, .ref t6]) h7
    have s7 := s6.trans z7
    have e7 : upd G6 t7 (HO.tup [.ref g, .ref t6]) t7 = some (HO.tup [.ref g, .ref t6]) := upd_same
    have hg := z7 _ _ hg
    have hA := z7 _ _ hA
    have e1 := z7 _ _ e1
    have e2 := z7 _ _ e2
    have e3 := z7 _ _ e3
    have e4 := z7 _ _ e4
    have e5 := z7 _ _ e5
    have e6 := z7 _ _ e6
    have n7 := (hO1.same s6).new h7
    generalize upd G6 t7 (HO.tup [.ref g, .ref t6]) = G7 at s7 hg hA e1 e2 e3 e4 e5 e6 e7 ⊢
    clear z7 h7
    refine ⟨by show 6 ≤ sizeLine; decide, fun t8 h8 => ?_⟩
    have z8 := same_upd (o := HO.lst [.ref t1, .ref t2, .ref t3, .ref t5, .ref t7, .non]) h8
    have s8 := s7.trans z8
    have e8 : upd G7 t8 (HO.lst [.ref t1, .ref t2, .ref t3, .ref t5, .ref t7, .non]) t8 = some (HO.lst [.ref t1, .ref t2, .ref t3, .ref t5, .ref t7, .non]) := upd_same
    have hg := z8 _ _ hg
    have hA := z8 _ _ hA
    have e1 := z8 _ _ e1
    have e2 := z8 _ _ e2
    have e3 := z8 _ _ e3
    have e4 := z8 _ _ e4
    have e5 := z8 _ _ e5
    have e6 := z8 _ _ e6
    have e7 := z8 _ _ e7
    have n8 := (hO1.same s7).new h8
    generalize upd G7 t8 (HO.lst [.ref t1, .ref t2, .ref t3, .ref t5, .ref t7, .non]) = G8 at s8 hg hA e1 e2 e3 e4 e5 e6 e7 e8 ⊢
    clear z8 h8
    have C8 : Chs p H G8 := C1.sm s8
    have dg8 := dg.same s8
    have dA8 := dA.same s8
    have pg8 := paired_imp (fun _ _ h => DA.same h s8) pg
    have pA8 := paired_imp (fun _ _ h => DA.same h s8) pA
    have O8 := hO1.same s8
    refine ⟨_, rfl, _, _, rfl, rfl, _, rfl, ite_d (fun k6 => ?_) (fun k6 => ?_)⟩
    · have k6 : kd < 6 := k6
      obtain ⟨v, hv⟩ := at_some (xs := [V.ref t1, .ref t2, .ref t3, .ref t5, .ref t7, .non]) kd0 k6
      refine ⟨_, rfl, _, rfl, _, _, _, _, rfl, rfl, .of e8, hv, ?_⟩
      have hm := atI_mem hv
      simp only [List.mem_cons, List.not_mem_nil, or_false] at hm
      rcases hm with rfl | rfl | rfl | rfl | rfl | rfl
      · exact q _ _ G8 (.lst n1 e1 (by show 2 ≤ 5000; decide) (.cons dg8 (.cons dA8 .nil))) C8
      · exact q _ _ G8 (.tup n2 e2 (by show 3 ≤ 5000; decide) (.cons dg8 (.cons dA8 (.cons (Sc.da (.int 0)) .nil)))) C8
      · exact q _ _ G8 (.tup n3 e3 (by show 1 ≤ 5000; decide) (.cons dg8 .nil)) C8
      · exact q _ _ G8 (.tup n5 e5 (by show 2 ≤ 5000; decide) (.cons (.lst n4 e4 g5 pg8) (.cons dA8 .nil))) C8
      · exact q _ _ G8 (.tup n7 e7 (by show 2 ≤ 5000; decide) (.cons dg8 (.cons (.tup n6 e6 z5 pA8) .nil))) C8
      · exact q _ _ G8 (Sc.da .non) C8
    clear e1 e2 e3 e4 e5 e6 e7 n1 n2 n3 n4 n5 n6 n7 s1 s2 s3 s4 s5 s6 s7 k6
    refine ⟨_, rfl, rfl, _, rfl, ite_eqI (fun k6 => ?_) (fun k6 => ?_)⟩
    · refine ⟨_, rfl, _, rfl, Nat.zero_le _, fun t9 h9 => ?_⟩
      have z9 := same_upd (o := HO.tup []) h9
      have s9 := s8.trans z9
      have e9 : upd G8 t9 (HO.tup []) t9 = some (HO.tup []) := upd_same
      have hg := z9 _ _ hg
      have hA := z9 _ _ hA
      have n9 := (hO1.same s8).new h9
      generalize upd G8 t9 (HO.tup []) = G9 at s9 hg hA e9 ⊢
      clear z9 h9
      refine ⟨by show 2 ≤ sizeLine; decide, fun t10 h10 => ?_⟩
      have z10 := same_upd (o := HO.tup [.str "a", .ref t9]) h10
      have s10 := s9.trans z10
      have e10 : upd G9 t10 (HO.tup [.str "a", .ref t9]) t10 = some (HO.tup [.str "a", .ref t9]) := upd_same
      have hg := z10 _ _ hg
      have hA := z10 _ _ hA
      have e9 := z10 _ _ e9
      have n10 := (hO1.same s9).new h10
      generalize upd G9 t10 (HO.tup [.str "a", .ref t9]) = G10 at s10 hg hA e9 e10 ⊢
      clear z10 h10
      refine ⟨by show 1 ≤ sizeLine; decide, fun t11 h11 => ?_⟩
      have z11 := same_upd (o := HO.lst [.ref t10]) h11
      have s11 := s10.trans z11
      have e11 : upd G10 t11 (HO.lst [.ref t10]) t11 = some (HO.lst [.ref t10]) := upd_same
      have hg := z11 _ _ hg
      have hA := z11 _ _ hA
      have e9 := z11 _ _ e9
      have e10 := z11 _ _ e10
      have n11 := (hO1.same s10).new h11
      generalize upd G10 t11 (HO.lst [.ref t10]) = G11 at s11 hg hA e9 e10 e11 ⊢
      clear z11 h11
      refine ⟨t11, 6, _, rfl, rfl, e11, by decide, by decide, by show 1 * 6 ≤ sizeLine; decide, fun t12 h12 => ?_⟩
      have z12 := same_upd (o := HO.lst (List.replicate (6 : Int).toNat [V.ref t10]).flatten) h12
      have s12 := s11.trans z12
      have e12 : upd G11 t12 (HO.lst (List.replicate (6 : Int).toNat [V.ref t10]).flatten) t12 = some (HO.lst (List.replicate (6 : Int).toNat [V.ref t10]).flatten) := upd_same
      have hg := z12 _ _ hg
      have hA := z12 _ _ hA
      have e9 := z12 _ _ e9
      have e10 := z12 _ _ e10
      have e11 := z12 _ _ e11
      have n12 := (hO1.same s11).new h12
      generalize upd G11 t12 (HO.lst (List.replicate (6 : Int).toNat [V.ref t10]).flatten) = G12 at s12 hg hA e9 e10 e11 e12 ⊢
      clear z12 h12
      have lz : zs.length ≤ 5 := by omega
      refine ⟨A0, t12, _, _, rfl, rfl, hA, e12, by show zs.length + 6 ≤ sizeLine; exact Nat.le_of_lt (small1000 (by omega)), fun t13 h13 => ?_⟩
      have z13 := same_upd (o := HO.lst (zs ++ (List.replicate (6 : Int).toNat [V.ref t10]).flatten)) h13
      have s13 := s12.trans z13
      have e13 : upd G12 t13 (HO.lst (zs ++ (List.replicate (6 : Int).toNat [V.ref t10]).flatten)) t13 = some (HO.lst (zs ++ (List.replicate (6 : Int).toNat [V.ref t10]).flatten)) := upd_same
      have hg := z13 _ _ hg
      have hA := z13 _ _ hA
      have e9 := z13 _ _ e9
      have e10 := z13 _ _ e10
      have e11 := z13 _ _ e11
      have e12 := z13 _ _ e12
      have n13 := (hO1.same s12).new h13
      generalize upd G12 t13 (HO.lst (zs ++ (List.replicate (6 : Int).toNat [V.ref t10]).flatten)) = G13 at s13 hg hA e9 e10 e11 e12 e13 ⊢
      clear z13 h13
      refine ⟨by show 2 ≤ sizeLine; decide, fun t14 h14 => ?_⟩
      have z14 := same_upd (o := HO.tup [.ref g, .ref t13]) h14
      have s14 := s13.trans z14
      have e14 : upd G13 t14 (HO.tup [.ref g, .ref t13]) t14 = some (HO.tup [.ref g, .ref t13]) := upd_same
      have hg := z14 _ _ hg
      have hA := z14 _ _ hA
      have e9 := z14 _ _ e9
      have e10 := z14 _ _ e10
      have e11 := z14 _ _ e11
      have e12 := z14 _ _ e12
      have e13 := z14 _ _ e13
      have n14 := (hO1.same s13).new h14
      generalize upd G13 t14 (HO.tup [.ref g, .ref t13]) = G14 at s14 hg hA e9 e10 e11 e12 e13 e14 ⊢
      clear z14 h14
      have d9 : DA C G14 2 (.ref t9) (.tuple []) := .tup n9 e9 (Nat.zero_le _) .nil
      have d10 : DA C G14 3 (.ref t10) (.tuple [.str "a", .tuple []]) := .tup n10 e10 (by show 2 ≤ 5000; decide) (.cons (Sc.da (sc _ (by simp))) (.cons d9 .nil))
      exact q _ _ G14 (.tup n14 e14 (by show 2 ≤ 5000; decide) (.cons (dg.same s14) (.cons (.lst n13 e13 (by rw [List.length_append]; show zs.length + 6 ≤ 5000; omega) (paired_app (paired_imp (fun _ _ h => DA.same h s14) pA) (paired_rep d10 6))) .nil))) (C1.sm s14)
    refine ⟨_, rfl, rfl, _, rfl, ite_eqI (fun k7 => ?_) (fun k7 => ?_)⟩
    · refine ⟨_, rfl, by show 1 ≤ sizeLine; decide, fun t9 h9 => ?_⟩
      have z9 := same_upd (o := HO.tup [.int 7]) h9
      have s9 := s8.trans z9
      have e9 : upd G8 t9 (HO.tup [.int 7]) t9 = some (HO.tup [.int 7]) := upd_same
      have hg := z9 _ _ hg
      have hA := z9 _ _ hA
      have n9 := (hO1.same s8).new h9
      generalize upd G8 t9 (HO.tup [.int 7]) = G9 at s9 hg hA e9 ⊢
      clear z9 h9
      refine ⟨by show 1 ≤ sizeLine; decide, fun t10 h10 => ?_⟩
      have z10 := same_upd (o := HO.tup [.ref t9]) h10
      have s10 := s9.trans z10
      have e10 : upd G9 t10 (HO.tup [.ref t9]) t10 = some (HO.tup [.ref t9]) := upd_same
      have hg := z10 _ _ hg
      have hA := z10 _ _ hA
      have e9 := z10 _ _ e9
      have n10 := (hO1.same s9).new h10
      generalize upd G9 t10 (HO.tup [.ref t9]) = G10 at s10 hg hA e9 e10 ⊢
      clear z10 h10
      refine catA_all hg e10 (by show gs.length + 1 ≤ sizeLine; exact Nat.le_of_lt (small1000 (by omega))) fun c H11 e11 z11 d11 => ?_
      have nc : ¬ C c := by
        rcases d11 with rfl | rfl | h
        · exact nCg
        · exact n10
        · exact (hO1.same s10).new h
      have s11 := s10.trans z11
      refine ⟨_, rfl, by show 2 ≤ sizeLine; decide, fun t12 h12 => ?_⟩
      have z12 := same_upd (o := .tup [.ref c, .ref A0]) h12
      have s12 := s11.trans z12
      have d9 : DA C (upd H11 t12 (.tup [.ref c, .ref A0])) 3 (.ref t9) (.tuple [.int 7]) := .tup n9 (z12 _ _ (z11 _ _ e9)) (by show 1 ≤ 5000; decide) (.cons (Sc.da (.int 7)) .nil)
      exact q _ _ _ (.tup ((hO1.same s11).new h12) upd_same (by show 2 ≤ 5000; decide) (.cons (.tup nc (z12 _ _ e11) (by rw [List.length_append]; show gs.length + 1 ≤ 5000; omega) (paired_app (paired_imp (fun _ _ h => DA.same h s12) pg) (.cons d9 .nil))) (.cons (dA.same s12) .nil))) (C1.sm s12)
    clear dg8 dA8 pg8 pA8
    have len0 : gs.length ≤ 12 := by omega
    refine ⟨fun σ H' => σ = [some (.ref p), some (.ref b), some (.ref g), some (.ref A0), some (.int kd), some (.ref t8), none, none, none, none] ∧ Same G8 H', ?_, ?_⟩
    · refine ⟨_, rfl, rfl, _, rfl, ite_eqI (fun k8 => ?_) (fun k8 => ⟨rfl, Same.refl _⟩)⟩
      refine ⟨_, rfl, Nat.zero_le _, fun t9 h9 => ?_⟩
      have z9 := same_upd (o := .tup []) h9
      refine ⟨.tuple hs, .tuple [], (dg.same (s8.trans z9)).dp, .tup (.of upd_same) .nil, (dg.same (s8.trans z9)).shaped (by decide), by decide, _, rfl, ?_⟩
      rw [eqv_nilT]
      cases hs with
      | nil => exact ifF ⟨rfl, z9⟩
      | cons hd0 hs0 =>
      have lpos : 0 < gs.length := by rw [hlg]; exact Nat.succ_pos _
      refine ifT ?_
      have hg9 := z9 _ _ hg
      have sX := s8.trans z9
      have C9 := C1.sm sX
      generalize upd G8 t9 (.tup []) = G9 at hg9 sX C9 ⊢
      refine ⟨_, rfl, _, rfl, _, rfl, g, _, rfl, .inr (.of hg9), p, (gs.length : Int), rfl, C9.1, by omega, by rw [Int.natAbs_natCast]; exact Nat.lt_of_le_of_lt len0 (by decide), fun r G10 r0 r1 C10 => ?_⟩
      refine ⟨_, rfl, C, p, rfl, hc, C10.1, (hO1.same sX).chs C10, fun v dv GE hv C11 => ?_⟩
      have hgE := C11.at ngp (C10.at ngp hg9)
      have pgE : Paired (DA C GE 3) gs (hd0 :: hs0) := paired_imp (fun _ _ h => DA.chs (DA.chs (DA.same h sX) C10 hc) C11 hc) pg
      have dAE := DA.chs (DA.chs (dA.same sX) C10 hc) C11 hc
      have OE := ((hO1.same sX).chs C10).chs C11
      have CE := (C9.trans C10).trans C11
      refine ⟨C, 3, g, gs, hd0 :: hs0, r, v, dv, rfl, nCg, hgE, pgE, by omega, hv.up (by decide), OE, fun c ys es G12 nc ec pe le s12 => ?_⟩
      refine ⟨_, rfl, by show 2 ≤ sizeLine; decide, fun t13 h13 => ?_⟩
      have z13 := same_upd (o := .tup [.ref c, .ref A0]) h13
      exact q _ _ _ (.tup ((OE.same s12).new h13) upd_same (by show 2 ≤ 5000; decide) (.cons (.tup nc (z13 _ _ ec) (by omega) (paired_imp (fun _ _ h => DA.same h z13) pe)) (.cons ((dAE.same s12).same z13) .nil))) ((CE.sm s12).sm z13)
    rintro σ G9 ⟨rfl, s9'⟩
    · have s9 := s8.trans s9'
      have hg := s9' _ _ hg
      have hA := s9' _ _ hA
      clear s9' e8 s8 O8 C8
      refine ⟨fun σ H' => σ = [some (.ref p), some (.ref b), some (.ref g), some (.ref A0), some (.int kd), some (.ref t8), none, none, none, none] ∧ Same G9 H', ?_, ?_⟩
      · refine ⟨_, rfl, rfl, _, rfl, ite_eqI (fun k9 => ?_) (fun k9 => ⟨rfl, Same.refl _⟩)⟩
        refine ⟨_, rfl, Nat.zero_le _, fun t9 h9 => ?_⟩
        have z9 := same_upd (o := .tup []) h9
        refine ⟨.tuple hs, .tuple [], (dg.same (s9.trans z9)).dp, .tup (.of upd_same) .nil, (dg.same (s9.trans z9)).shaped (by decide), by decide, _, rfl, ?_⟩
        rw [eqv_nilT]
        cases hs with
        | nil => exact ifF ⟨rfl, z9⟩
        | cons hd0 hs0 =>
        have lpos : 0 < gs.length := by rw [hlg]; exact Nat.succ_pos _
        refine ifT ?_
        have hg9 := z9 _ _ hg
        have sX := s9.trans z9
        have C9 := C1.sm sX
        generalize upd G9 t9 (.tup []) = Ga at hg9 sX C9 ⊢
        refine ⟨_, rfl, _, rfl, _, rfl, g, _, rfl, .inr (.of hg9), p, (gs.length : Int), rfl, C9.1, by omega, by rw [Int.natAbs_natCast]; exact Nat.lt_of_le_of_lt len0 (by decide), fun r G10 r0 r1 C10 => ?_⟩
        have e9p : (10 : Int) ^ (9 : Int).toNat = 1000000000 := by decide +kernel
        refine ⟨_, rfl, _, _, rfl, rfl, ⟨by decide, by decide, by decide⟩, p, 1000000000, rfl, C10.1, by decide, by decide, fun rr GE rr0 rr1 C11 => ?_⟩
        have hgE := C11.at ngp (C10.at ngp hg9)
        have pgE : Paired (DA C GE 3) gs (hd0 :: hs0) := paired_imp (fun _ _ h => DA.chs (DA.chs (DA.same h sX) C10 hc) C11 hc) pg
        have dAE := DA.chs (DA.chs (dA.same sX) C10 hc) C11 hc
        have OE := ((hO1.same sX).chs C10).chs C11
        have CE := (C9.trans C10).trans C11
        refine ⟨_, _, rfl, rfl, by show 1 ≤ sizeLine; decide, fun tv htv => ?_⟩
        have zv := same_upd (o := .tup [.int (5 + rr)]) htv
        have dv : DA C (upd GE tv (.tup [.int (5 + rr)])) 3 (.ref tv) (.tuple [.int (5 + rr)]) := .tup (OE.new htv) upd_same (by show 1 ≤ 5000; decide) (.cons (Sc.da (.int _)) .nil)
        have hgE := zv _ _ hgE
        have pgE := paired_imp (fun _ _ h => DA.same h zv) pgE
        have dAE := dAE.same zv
        have OE := OE.same zv
        have CE := CE.sm zv
        generalize upd GE tv (.tup [.int (5 + rr)]) = GF at dv hgE pgE dAE OE CE ⊢
        refine ⟨C, 3, g, gs, hd0 :: hs0, r, .ref tv, _, rfl, nCg, hgE, pgE, by omega, dv, OE, fun c ys es G12 nc ec pe le s12 => ?_⟩
        refine ⟨_, rfl, by show 2 ≤ sizeLine; decide, fun t13 h13 => ?_⟩
        have z13 := same_upd (o := .tup [.ref c, .ref A0]) h13
        exact q _ _ _ (.tup ((OE.same s12).new h13) upd_same (by show 2 ≤ 5000; decide) (.cons (.tup nc (z13 _ _ ec) (by omega) (paired_imp (fun _ _ h => DA.same h z13) pe)) (.cons ((dAE.same s12).same z13) .nil))) ((CE.sm s12).sm z13)
      rintro σ G10 ⟨rfl, s10'⟩
      have s10 := s9.trans s10'
      have hg := s10' _ _ hg
      have hA := s10' _ _ hA
      clear s10' s9
      refine ⟨_, rfl, Nat.zero_le _, fun t11 h11 => ?_⟩
      have z11 := same_upd (o := HO.lst []) h11
      have s11 := s10.trans z11
      have e11 : upd G10 t11 (HO.lst []) t11 = some (HO.lst []) := upd_same
      have hg := z11 _ _ hg
      have hA := z11 _ _ hA
      have n11 := (hO1.same s10).new h11
      generalize upd G10 t11 (HO.lst []) = G11 at s11 hg hA e11 ⊢
      clear z11 h11
      have C11 : Chs p H G11 := C1.sm s11
      refine ⟨.list as, .list [], (dA.same s11).dp, .lst (.of e11) .nil, (dA.same s11).shaped (by decide), by decide, _, rfl, ?_⟩
      rw [eqv_nilD]
      clear h12
      cases as with
      | nil =>
      refine ifT ?_
      refine ⟨_, rfl, Nat.zero_le _, fun t12 h12 => ?_⟩
      have z12 := same_upd (o := HO.tup []) h12
      have s12 := s11.trans z12
      have e12 : upd G11 t12 (HO.tup []) t12 = some (HO.tup []) := upd_same
      have hg := z12 _ _ hg
      have hA := z12 _ _ hA
      have n12 := (hO1.same s11).new h12
      generalize upd G11 t12 (HO.tup []) = G12 at s12 hg hA e12 ⊢
      clear z12 h12
      refine ⟨by show 2 ≤ sizeLine; decide, fun t13 h13 => ?_⟩
      have z13 := same_upd (o := HO.tup [.str "a", .ref t12]) h13
      have s13 := s12.trans z13
      have e13 : upd G12 t13 (HO.tup [.str "a", .ref t12]) t13 = some (HO.tup [.str "a", .ref t12]) := upd_same
      have hg := z13 _ _ hg
      have hA := z13 _ _ hA
      have e12 := z13 _ _ e12
      have n13 := (hO1.same s12).new h13
      generalize upd G12 t13 (HO.tup [.str "a", .ref t12]) = G13 at s13 hg hA e12 e13 ⊢
      clear z13 h13
      refine ⟨by show 1 ≤ sizeLine; decide, fun t14 h14 => ?_⟩
      have z14 := same_upd (o := HO.tup [.str "a"]) h14
      have s14 := s13.trans z14
      have e14 : upd G13 t14 (HO.tup [.str "a"]) t14 = some (HO.tup [.str "a"]) := upd_same
      have hg := z14 _ _ hg
      have hA := z14 _ _ hA
      have e12 := z14 _ _ e12
      have e13 := z14 _ _ e13
      have n14 := (hO1.same s13).new h14
      generalize upd G13 t14 (HO.tup [.str "a"]) = G14 at s14 hg hA e12 e13 e14 ⊢
      clear z14 h14
      refine ⟨Nat.zero_le _, fun t15 h15 => ?_⟩
      have z15 := same_upd (o := HO.tup []) h15
      have s15 := s14.trans z15
      have e15 : upd G14 t15 (HO.tup []) t15 = some (HO.tup []) := upd_same
      have hg := z15 _ _ hg
      have hA := z15 _ _ hA
      have e12 := z15 _ _ e12
      have e13 := z15 _ _ e13
      have e14 := z15 _ _ e14
      have n15 := (hO1.same s14).new h15
      generalize upd G14 t15 (HO.tup []) = G15 at s15 hg hA e12 e13 e14 e15 ⊢
      clear z15 h15
      refine ⟨by show 2 ≤ sizeLine; decide, fun t16 h16 => ?_⟩
      have z16 := same_upd (o := HO.lst [.str "a", .ref t15]) h16
      have s16 := s15.trans z16
      have e16 : upd G15 t16 (HO.lst [.str "a", .ref t15]) t16 = some (HO.lst [.str "a", .ref t15]) := upd_same
      have hg := z16 _ _ hg
      have hA := z16 _ _ hA
      have e12 := z16 _ _ e12
      have e13 := z16 _ _ e13
      have e14 := z16 _ _ e14
      have e15 := z16 _ _ e15
      have n16 := (hO1.same s15).new h16
      generalize upd G15 t16 (HO.lst [.str "a", .ref t15]) = G16 at s16 hg hA e12 e13 e14 e15 e16 ⊢
      clear z16 h16
      refine ⟨Nat.zero_le _, fun t17 h17 => ?_⟩
      have z17 := same_upd (o := HO.lst []) h17
      have s17 := s16.trans z17
      have e17 : upd G16 t17 (HO.lst []) t17 = some (HO.lst []) := upd_same
      have hg := z17 _ _ hg
      have hA := z17 _ _ hA
      have e12 := z17 _ _ e12
      have e13 := z17 _ _ e13
      have e14 := z17 _ _ e14
      have e15 := z17 _ _ e15
      have e16 := z17 _ _ e16
      have n17 := (hO1.same s16).new h17
      generalize upd G16 t17 (HO.lst []) = G17 at s17 hg hA e12 e13 e14 e15 e16 e17 ⊢
      clear z17 h17
      refine ⟨by show 2 ≤ sizeLine; decide, fun t18 h18 => ?_⟩
      have z18 := same_upd (o := HO.tup [.str "a", .ref t17]) h18
      have s18 := s17.trans z18
      have e18 : upd G17 t18 (HO.tup [.str "a", .ref t17]) t18 = some (HO.tup [.str "a", .ref t17]) := upd_same
      have hg := z18 _ _ hg
      have hA := z18 _ _ hA
      have e12 := z18 _ _ e12
      have e13 := z18 _ _ e13
      have e14 := z18 _ _ e14
      have e15 := z18 _ _ e15
      have e16 := z18 _ _ e16
      have e17 := z18 _ _ e17
      have n18 := (hO1.same s17).new h18
      generalize upd G17 t18 (HO.tup [.str "a", .ref t17]) = G18 at s18 hg hA e12 e13 e14 e15 e16 e17 e18 ⊢
      clear z18 h18
      refine ⟨Nat.zero_le _, fun t19 h19 => ?_⟩
      have z19 := same_upd (o := HO.tup []) h19
      have s19 := s18.trans z19
      have e19 : upd G18 t19 (HO.tup []) t19 = some (HO.tup []) := upd_same
      have hg := z19 _ _ hg
      have hA := z19 _ _ hA
      have e12 := z19 _ _ e12
      have e13 := z19 _ _ e13
      have e14 := z19 _ _ e14
      have e15 := z19 _ _ e15
      have e16 := z19 _ _ e16
      have e17 := z19 _ _ e17
      have e18 := z19 _ _ e18
      have n19 := (hO1.same s18).new h19
      generalize upd G18 t19 (HO.tup []) = G19 at s19 hg hA e12 e13 e14 e15 e16 e17 e18 e19 ⊢
      clear z19 h19
      refine ⟨by show 2 ≤ sizeLine; decide, fun t20 h20 => ?_⟩
      have z20 := same_upd (o := HO.tup [.int 3, .ref t19]) h20
      have s20 := s19.trans z20
      have e20 : upd G19 t20 (HO.tup [.int 3, .ref t19]) t20 = some (HO.tup [.int 3, .ref t19]) := upd_same
      have hg := z20 _ _ hg
      have hA := z20 _ _ hA
      have e12 := z20 _ _ e12
      have e13 := z20 _ _ e13
      have e14 := z20 _ _ e14
      have e15 := z20 _ _ e15
      have e16 := z20 _ _ e16
      have e17 := z20 _ _ e17
      have e18 := z20 _ _ e18
      have e19 := z20 _ _ e19
      have n20 := (hO1.same s19).new h20
      generalize upd G19 t20 (HO.tup [.int 3, .ref t19]) = G20 at s20 hg hA e12 e13 e14 e15 e16 e17 e18 e19 e20 ⊢
      clear z20 h20
      refine ⟨Nat.zero_le _, fun t21 h21 => ?_⟩
      have z21 := same_upd (o := HO.tup []) h21
      have s21 := s20.trans z21
      have e21 : upd G20 t21 (HO.tup []) t21 = some (HO.tup []) := upd_same
      have hg := z21 _ _ hg
      have hA := z21 _ _ hA
      have e12 := z21 _ _ e12
      have e13 := z21 _ _ e13
      have e14 := z21 _ _ e14
      have e15 := z21 _ _ e15
      have e16 := z21 _ _ e16
      have e17 := z21 _ _ e17
      have e18 := z21 _ _ e18
      have e19 := z21 _ _ e19
      have e20 := z21 _ _ e20
      have n21 := (hO1.same s20).new h21
      generalize upd G20 t21 (HO.tup []) = G21 at s21 hg hA e12 e13 e14 e15 e16 e17 e18 e19 e20 e21 ⊢
      clear z21 h21
      refine ⟨by show 2 ≤ sizeLine; decide, fun t22 h22 => ?_⟩
      have z22 := same_upd (o := HO.tup [.non, .ref t21]) h22
      have s22 := s21.trans z22
      have e22 : upd G21 t22 (HO.tup [.non, .ref t21]) t22 = some (HO.tup [.non, .ref t21]) := upd_same
      have hg := z22 _ _ hg
      have hA := z22 _ _ hA
      have e12 := z22 _ _ e12
      have e13 := z22 _ _ e13
      have e14 := z22 _ _ e14
      have e15 := z22 _ _ e15
      have e16 := z22 _ _ e16
      have e17 := z22 _ _ e17
      have e18 := z22 _ _ e18
      have e19 := z22 _ _ e19
      have e20 := z22 _ _ e20
      have e21 := z22 _ _ e21
      have n22 := (hO1.same s21).new h22
      generalize upd G21 t22 (HO.tup [.non, .ref t21]) = G22 at s22 hg hA e12 e13 e14 e15 e16 e17 e18 e19 e20 e21 e22 ⊢
      clear z22 h22
      refine ⟨by show 6 ≤ sizeLine; decide, fun t23 h23 => ?_⟩
      have z23 := same_upd (o := HO.lst [.ref t13, .ref t14, .ref t16, .ref t18, .ref t20, .ref t22]) h23
      have s23 := s22.trans z23
      have e23 : upd G22 t23 (HO.lst [.ref t13, .ref t14, .ref t16, .ref t18, .ref t20, .ref t22]) t23 = some (HO.lst [.ref t13, .ref t14, .ref t16, .ref t18, .ref t20, .ref t22]) := upd_same
      have hg := z23 _ _ hg
      have hA := z23 _ _ hA
      have e12 := z23 _ _ e12
      have e13 := z23 _ _ e13
      have e14 := z23 _ _ e14
      have e15 := z23 _ _ e15
      have e16 := z23 _ _ e16
      have e17 := z23 _ _ e17
      have e18 := z23 _ _ e18
      have e19 := z23 _ _ e19
      have e20 := z23 _ _ e20
      have e21 := z23 _ _ e21
      have e22 := z23 _ _ e22
      have n23 := (hO1.same s22).new h23
      generalize upd G22 t23 (HO.lst [.ref t13, .ref t14, .ref t16, .ref t18, .ref t20, .ref t22]) = G23 at s23 hg hA e12 e13 e14 e15 e16 e17 e18 e19 e20 e21 e22 e23 ⊢
      clear z23 h23
      have C23 : Chs p H G23 := C1.sm s23
      have n23p : t23 ≠ p := fun e => n23 (e ▸ hc)
      refine ⟨_, rfl, p, 6, rfl, C23.1, by decide, by decide, fun r G24 r0 r1 C24 => ?_⟩
      obtain ⟨v, hv⟩ := at_some (xs := [V.ref t13, .ref t14, .ref t16, .ref t18, .ref t20, .ref t22]) r0 r1
      refine ⟨_, _, _, _, rfl, rfl, .of (C24.at n23p e23), hv, by show 1 ≤ sizeLine; decide, fun t25 h25 => ⟨by show 2 ≤ sizeLine; decide, fun t26 h26 => ?_⟩⟩
      have z25 := same_upd (o := .lst [v]) h25
      have z26 := same_upd (o := .tup [.ref g, .ref t25]) h26
      have O24 := (hO1.same s23).chs C24
      have n25 := O24.new h25
      have n26 := (O24.same z25).new h26
      have fin : ∀ d : PyData, DA C G23 3 v d → Q (.ref t26) _ := fun d h => q _ _ _ (.tup n26 upd_same (by show 2 ≤ 5000; decide) (.cons (((DA.chs (dg.same s23) C24 hc).same z25).same z26) (.cons (.lst n25 (z26 _ _ upd_same) (by show 1 ≤ 5000; decide) (.cons (((DA.chs h C24 hc).same z25).same z26) .nil)) .nil))) (((C23.trans C24).sm z25).sm z26)
      have sa := Sc.da (C := C) (H := G23) (n := 2) (sc "a" (by simp))
      have hm := atI_mem hv
      simp only [List.mem_cons, List.not_mem_nil, or_false] at hm
      rcases hm with rfl | rfl | rfl | rfl | rfl | rfl
      · exact fin _ (.tup n13 e13 (by show 2 ≤ 5000; decide) (.cons sa (.cons (.tup n12 e12 (Nat.zero_le _) .nil) .nil)))
      · exact fin _ (.tup n14 e14 (by show 1 ≤ 5000; decide) (.cons sa .nil))
      · exact fin _ (.lst n16 e16 (by show 2 ≤ 5000; decide) (.cons sa (.cons (.tup n15 e15 (Nat.zero_le _) .nil) .nil)))
      · exact fin _ (.tup n18 e18 (by show 2 ≤ 5000; decide) (.cons sa (.cons (.lst n17 e17 (Nat.zero_le _) .nil) .nil)))
      · exact fin _ (.tup n20 e20 (by show 2 ≤ 5000; decide) (.cons (Sc.da (.int 3)) (.cons (.tup n19 e19 (Nat.zero_le _) .nil) .nil)))
      · exact fin _ (.tup n22 e22 (by show 2 ≤ 5000; decide) (.cons (Sc.da .non) (.cons (.tup n21 e21 (Nat.zero_le _) .nil) .nil)))
      | cons ad0 as0 =>
      refine ifF ?_
      have zpos : 0 < zs.length := by rw [hlz]; exact Nat.succ_pos _
      have z5' : zs.length ≤ 5 := by omega
      generalize hasd : ad0 :: as0 = as at *
      refine ⟨_, rfl, _, rfl, A0, _, rfl, .inl (.of hA), p, (zs.length : Int), rfl, C11.1, by omega, by rw [Int.natAbs_natCast]; exact Nat.lt_of_le_of_lt z5' (by decide), fun ai G12 a0 a1 C12 => ?_⟩
      have hg12 := C12.at ngp hg
      have hA12 := C12.at nAp hA
      have dg12 := DA.chs (dg.same s11) C12 hc
      have pA12 := paired_imp (fun _ _ h => DA.chs (DA.same h s11) C12 hc) pA
      have O12 := (hO1.same s11).chs C12
      have C012 := C11.trans C12
      obtain ⟨v, hv⟩ := at_some (xs := zs) a0 a1
      obtain ⟨e, hem, hve⟩ := paired_any pA12 (atI_mem hv)
      obtain ⟨at1, at2, at3⟩ := hat e hem
      obtain ⟨nm, tsD, rfl⟩ := atom_data at1
      obtain ⟨b2, us, k, ek, rfl, _, hb2, _, pb2⟩ := hve.asTup
      cases ek
      match us, pb2 with
      | [nv, tv], .cons hnv (.cons htv .nil) =>
      obtain ⟨T0, ys, k, ek, rfl, nCT, hT0, y5, pT0⟩ := htv.asTup
      cases ek
      have hly := Paired.length pT0
      have at2 : 1 ≤ tsD.length := at2
      have at3 : tsD.length ≤ 4 := at3
      refine ⟨_, rfl, _, rfl, _, _, _, _, rfl, rfl, .of hA12, hv, b2, _, rfl, .of hb2, rfl, _, _, rfl, _, _, rfl, rfl, ?_⟩
      have nTp : T0 ≠ p := fun e => nCT (e ▸ hc)
      clear hA hg dg dA pA hO1 C11 hb2 hem hve s11
      -- the name
      refine ⟨fun σ H' => ∃ (nv' : V) (nd : PyData), σ = [some (.ref p), some (.ref b), some (.ref g), some (.ref A0), some (.int kd), some (.ref t8), some (.int ai), some nv', some (.ref T0), none] ∧ DA C H' 2 nv' nd ∧ Chs p G12 H', ?_, ?_⟩
      · refine ⟨_, rfl, rfl, _, rfl, ite_eqI (fun k10 => ?_) (fun k10 => ⟨nv, nm, rfl, hnv, Chs.refl C12.1⟩)⟩
        refine ⟨by show 1 ≤ sizeLine; decide, fun t13 h13 => ⟨by show 5 ≤ sizeLine; decide, fun t14 h14 => ?_⟩⟩
        have z13 := same_upd (o := .tup [.str "a"]) h13
        have z14 := same_upd (o := .lst [.str "", .str "abcdefghij", .int 3, .non, .ref t13]) h14
        have n13 := O12.new h13
        have n14 := (O12.same z13).new h14
        have e14 : upd (upd G12 t13 (.tup [.str "a"])) t14 (.lst [.str "", .str "abcdefghij", .int 3, .non, .ref t13]) t14 = some (.lst [.str "", .str "abcdefghij", .int 3, .non, .ref t13]) := upd_same
        have e13 := z14 _ _ (upd_same (a := t13) (o := .tup [.str "a"]) (H := G12))
        have s14 := z13.trans z14
        generalize upd (upd G12 t13 (.tup [.str "a"])) t14 (.lst [.str "", .str "abcdefghij", .int 3, .non, .ref t13]) = G14 at e13 e14 s14 ⊢
        have Ca : Chs p G12 G14 := (Chs.refl C12.1).sm s14
        refine ⟨_, rfl, p, 5, rfl, Ca.1, by decide, by decide, fun r G15 r0 r1 Cb => ?_⟩
        obtain ⟨v2, hv2⟩ := at_some (xs := [V.str "", .str "abcdefghij", .int 3, .non, .ref t13]) r0 r1
        refine ⟨_, _, _, _, rfl, rfl, .of (Cb.at (fun e => n14 (e ▸ hc)) e14), hv2, ?_⟩
        have hm := atI_mem hv2
        simp only [List.mem_cons, List.not_mem_nil, or_false] at hm
        rcases hm with rfl | rfl | rfl | rfl | rfl
        · exact ⟨_, _, rfl, Sc.da (sc _ (by simp)), Ca.trans Cb⟩
        · exact ⟨_, _, rfl, Sc.da (sc _ (by simp)), Ca.trans Cb⟩
        · exact ⟨_, _, rfl, Sc.da (.int 3), Ca.trans Cb⟩
        · exact ⟨_, _, rfl, Sc.da .non, Ca.trans Cb⟩
        · have dl : DA C G14 2 (.ref t13) (.tuple [.str "a"]) := .tup n13 e13 (by show 1 ≤ 5000; decide) (.cons (Sc.da (sc "a" (by simp))) .nil)
          exact ⟨_, _, rfl, DA.chs dl Cb hc, Ca.trans Cb⟩
      rintro σ G13 ⟨nv', nd, rfl, hnv', C13⟩
      have hT13 := C13.at nTp hT0
      have pT13 := paired_imp (fun _ _ h => DA.chs h C13 hc) pT0
      have O13 := O12.chs C13
      -- the terms
      refine ⟨fun σ H' => ∃ (T : Addr) (ws : List V) (es : List PyData), σ = [some (.ref p), some (.ref b), some (.ref g), some (.ref A0), some (.int kd), some (.ref t8), some (.int ai), some nv', some (.ref T), none] ∧ ¬ C T ∧ H' T = some (.tup ws) ∧ Paired (DA C H' 1) ws es ∧ ws.length ≤ 20 ∧ Chs p G13 H', ?_, ?_⟩
      · refine ⟨_, rfl, rfl, _, rfl, ite_eqI (fun k11 => ?_) (fun k11 => ⟨T0, ys, tsD, rfl, nCT, hT13, pT13, by omega, Chs.refl C13.1⟩)⟩
        have y4 : ys.length ≤ 4 := by omega
        refine ⟨_, rfl, _, rfl, _, rfl, T0, _, rfl, .inr (.of hT13), p, (ys.length : Int), rfl, C13.1, by omega, by rw [Int.natAbs_natCast]; exact Nat.lt_of_le_of_lt y4 (by decide), fun r G14 r0 r1 C14 => ?_⟩
        refine ⟨_, rfl, C, p, rfl, hc, C14.1, O13.chs C14, fun w dw G15 hw C15 => ?_⟩
        have C1415 := C14.trans C15
        refine ⟨C, 1, T0, ys, tsD, r, w, dw, rfl, nCT, C1415.at nTp hT13, paired_imp (fun _ _ h => DA.chs h C1415 hc) pT13, by omega, hw, O13.chs C1415, fun c ws es G16 nc ec pe le s16 => ?_⟩
        exact ⟨c, ws, es, rfl, nc, ec, pe, by omega, C1415.sm s16⟩
      rintro σ G14 ⟨T, ws, es, rfl, nT, hT, pT, w20, C14⟩
      have hnv14 := DA.chs hnv' C14 hc
      have O14 := O13.chs C14
      have C1214 := C13.trans C14
      -- the atom
      refine ⟨fun σ H' => ∃ (av : V) (ad : PyData), σ = [some (.ref p), some (.ref b), some (.ref g), some (.ref A0), some (.int kd), some (.ref t8), some (.int ai), some nv', some (.ref T), some av] ∧ DA C H' 3 av ad ∧ Same G14 H', ?_, ?_⟩
      · have mk : ∀ (c : Addr) (us : List V) (fs : List PyData) (G : Hp), ¬ C c → G c = some (.tup us) → Paired (DA C G 1) us fs → us.length ≤ 20 → Same G14 G → ∀ r, G r = none → ∃ (av : V) (ad : PyData), (([some (.ref p), some (.ref b), some (.ref g), some (.ref A0), some (.int kd), some (.ref t8), some (.int ai), some nv', some (.ref T), none] : List (Option V)).set 9 (some (.ref r))) = [some (.ref p), some (.ref b), some (.ref g), some (.ref A0), some (.int kd), some (.ref t8), some (.int ai), some nv', some (.ref T), some av] ∧ DA C (upd G r (.tup [nv', .ref c])) 3 av ad ∧ Same G14 (upd G r (.tup [nv', .ref c])) := fun c us fs G nc ec pc lc s r hr => by
          have z := same_upd (o := .tup [nv', .ref c]) hr
          exact ⟨.ref r, _, rfl, .tup ((O14.same s).new hr) upd_same (by show 2 ≤ 5000; decide) (.cons ((hnv14.same s).same z) (.cons (.tup nc (z _ _ ec) (by omega) (paired_imp (fun _ _ h => DA.same h z) pc)) .nil)), s.trans z⟩
        refine ⟨_, rfl, _, rfl, rfl, _, rfl, ite_eqI (fun k12 => ?_) (fun k12 => ?_)⟩
        · refine ⟨_, rfl, ?_⟩
          refine ⟨_, rfl, ?_⟩
          unfold tNoPart
          refine slA_all hT fun c G15 ec s15 dc => ?_
          have cl := cutV_len ws (some 1) none
          obtain ⟨fs, pf⟩ := paired_cut (paired_imp (fun _ _ h => DA.same h s15) pT) (some 1) none
          have nc : ¬ C c := by
            rcases dc with rfl | h
            · exact nT
            · exact O14.new h
          exact ⟨by show 2 ≤ sizeLine; decide, fun r hr => mk c _ fs G15 nc ec pf (by omega) s15 r hr⟩
        · exact ⟨_, rfl, by show 2 ≤ sizeLine; decide, fun r hr => mk T ws es G14 nT hT pT w20 (Same.refl _) r hr⟩
      rintro σ G15 ⟨av, ad, rfl, hav, s15⟩
      have hnv15 := hnv14.same s15
      have hT15 := s15 _ _ hT
      have pT15 := paired_imp (fun _ _ h => DA.same h s15) pT
      have O15 := O14.same s15
      have C1215 := C1214.sm s15
      have O15c := O15
      have C015 := C012.trans C1215
      have hg15 := C1215.at ngp hg12
      have hA15 := C1215.at nAp hA12
      have dg15 := DA.chs dg12 C1215 hc
      have pA15 := paired_imp (fun _ _ h => DA.chs h C1215 hc) pA12
      have dT15 : DA C G15 2 (.ref T) (.tuple es) := .tup nT hT15 (by omega) pT15
      clear C13 C14 C1214 C1215 C12 C012 O12 O13 O14 hA12 hg12 dg12 pA12 s15 hT13 pT13
      refine ⟨fun σ H' => ∃ (av : V) (ad : PyData), σ = [some (.ref p), some (.ref b), some (.ref g), some (.ref A0), some (.int kd), some (.ref t8), some (.int ai), some nv', some (.ref T), some av] ∧ DA C H' 3 av ad ∧ Chs p G15 H', ?_, ?_⟩
      · refine ⟨_, rfl, _, _, rfl, rfl, _, rfl, ite_d (fun k10 => ?_) (fun k10 => ⟨av, ad, rfl, hav, Chs.refl C015.1⟩)⟩
        have s15 := Same.refl G15
        have hO1 := O15
        refine ⟨_, rfl, _, rfl, by show 2 ≤ sizeLine; decide, fun t16 h16 => ?_⟩
        have z16 := same_upd (o := HO.lst [nv', .ref T]) h16
        have s16 := s15.trans z16
        have e16 : upd G15 t16 (HO.lst [nv', .ref T]) t16 = some (HO.lst [nv', .ref T]) := upd_same
        have hT15 := z16 _ _ hT15
        have n16 := (hO1.same s15).new h16
        generalize upd G15 t16 (HO.lst [nv', .ref T]) = G16 at s16 hT15 e16 ⊢
        clear z16 h16
        refine ⟨_, rfl, _, rfl, by show 3 ≤ sizeLine; decide, fun t17 h17 => ?_⟩
        have z17 := same_upd (o := HO.tup [nv', .ref T, .int 1]) h17
        have s17 := s16.trans z17
        have e17 : upd G16 t17 (HO.tup [nv', .ref T, .int 1]) t17 = some (HO.tup [nv', .ref T, .int 1]) := upd_same
        have hT15 := z17 _ _ hT15
        have e16 := z17 _ _ e16
        have n17 := (hO1.same s16).new h17
        generalize upd G16 t17 (HO.tup [nv', .ref T, .int 1]) = G17 at s17 hT15 e16 e17 ⊢
        clear z17 h17
        refine ⟨_, rfl, _, rfl, T, ws, rfl, .inr (.of hT15), fun t18 h18 => ?_⟩
        have z18 := same_upd (o := HO.lst ws) h18
        have s18 := s17.trans z18
        have e18 : upd G17 t18 (HO.lst ws) t18 = some (HO.lst ws) := upd_same
        have hT15 := z18 _ _ hT15
        have e16 := z18 _ _ e16
        have e17 := z18 _ _ e17
        have n18 := (hO1.same s17).new h18
        generalize upd G17 t18 (HO.lst ws) = G18 at s18 hT15 e16 e17 e18 ⊢
        clear z18 h18
        refine ⟨by show 2 ≤ sizeLine; decide, fun t19 h19 => ?_⟩
        have z19 := same_upd (o := HO.tup [nv', .ref t18]) h19
        have s19 := s18.trans z19
        have e19 : upd G18 t19 (HO.tup [nv', .ref t18]) t19 = some (HO.tup [nv', .ref t18]) := upd_same
        have hT15 := z19 _ _ hT15
        have e16 := z19 _ _ e16
        have e17 := z19 _ _ e17
        have e18 := z19 _ _ e18
        have n19 := (hO1.same s18).new h19
        generalize upd G18 t19 (HO.tup [nv', .ref t18]) = G19 at s19 hT15 e16 e17 e18 e19 ⊢
        clear z19 h19
        refine ⟨_, rfl, by show 4 ≤ sizeLine; decide, fun t20 h20 => ?_⟩
        have z20 := same_upd (o := HO.lst [.ref t16, .ref t17, .ref t19, nv']) h20
        have s20 := s19.trans z20
        have e20 : upd G19 t20 (HO.lst [.ref t16, .ref t17, .ref t19, nv']) t20 = some (HO.lst [.ref t16, .ref t17, .ref t19, nv']) := upd_same
        have hT15 := z20 _ _ hT15
        have e16 := z20 _ _ e16
        have e17 := z20 _ _ e17
        have e18 := z20 _ _ e18
        have e19 := z20 _ _ e19
        have n20 := (hO1.same s19).new h20
        generalize upd G19 t20 (HO.lst [.ref t16, .ref t17, .ref t19, nv']) = G20 at s20 hT15 e16 e17 e18 e19 e20 ⊢
        clear z20 h20
        have C20 : Chs p G15 G20 := (Chs.refl C015.1).sm s20
        refine ⟨_, rfl, p, 4, rfl, C20.1, by decide, by decide, fun r G21 r0 r1 C21 => ?_⟩
        obtain ⟨v3, hv3⟩ := at_some (xs := [V.ref t16, .ref t17, .ref t19, nv']) r0 r1
        refine ⟨_, _, _, _, rfl, rfl, .of (C21.at (fun e => n20 (e ▸ hc)) e20), hv3, ?_⟩
        have fin : ∃ ad', DA C G20 3 v3 ad' := by
          have hm := atI_mem hv3
          simp only [List.mem_cons, List.not_mem_nil, or_false] at hm
          have dn := hnv15.same s20
          have dT := dT15.same s20
          rcases hm with rfl | rfl | rfl | rfl
          · exact ⟨_, .lst n16 e16 (by show 2 ≤ 5000; decide) (.cons dn (.cons dT .nil))⟩
          · exact ⟨_, .tup n17 e17 (by show 3 ≤ 5000; decide) (.cons dn (.cons dT (.cons (Sc.da (.int 1)) .nil)))⟩
          · exact ⟨_, .tup n19 e19 (by show 2 ≤ 5000; decide) (.cons dn (.cons (.lst n18 e18 (by omega) (paired_imp (fun _ _ h => DA.same h s20) pT15)) .nil))⟩
          · exact ⟨_, dn.up (by decide)⟩
        obtain ⟨ad', hd'⟩ := fin
        exact ⟨v3, ad', rfl, DA.chs hd' C21 hc, C20.trans C21⟩
      rintro σ G16 ⟨av', ad', rfl, hav', C16⟩
      have hg16 := C16.at ngp hg15
      have hA16 := C16.at nAp hA15
      have dg16 := DA.chs dg15 C16 hc
      have pA16 := paired_imp (fun _ _ h => DA.chs h C16 hc) pA15
      have O16 := O15.chs C16
      have C016 := C015.trans C16
      refine ⟨_, rfl, _, rfl, _, rfl, _, rfl, A0, zs, rfl, .of hA16, fun c1 h1 => ?_⟩
      have z1 := same_upd (o := .lst (cutV zs none (some ai))) h1
      have f1 : upd G16 c1 (.lst (cutV zs none (some ai))) c1 = some (.lst (cutV zs none (some ai))) := upd_same
      have s1 := z1
      generalize upd G16 c1 (.lst (cutV zs none (some ai))) = K1 at z1 f1 s1 ⊢
      have cl1 := cutV_len zs none (some ai)
      have cl2 := cutV_len zs (some (ai + 1)) none
      refine ⟨_, rfl, by show 1 ≤ sizeLine; decide, fun c2 h2 => ?_⟩
      have z2 := same_upd (o := .lst [av']) h2
      have f2 : upd K1 c2 (.lst [av']) c2 = some (.lst [av']) := upd_same
      have f1 := z2 _ _ f1
      have s2 := s1.trans z2
      generalize upd K1 c2 (.lst [av']) = K2 at z2 f1 f2 s2 ⊢
      refine ⟨c1, c2, _, _, rfl, rfl, f1, f2, by show _ + 1 ≤ sizeLine; exact Nat.le_of_lt (small1000 (by omega)), fun c3 h3 => ?_⟩
      have z3 := same_upd (o := .lst (cutV zs none (some ai) ++ [av'])) h3
      have f3 : upd K2 c3 (.lst (cutV zs none (some ai) ++ [av'])) c3 = some (.lst (cutV zs none (some ai) ++ [av'])) := upd_same
      have s3 := s2.trans z3
      generalize upd K2 c3 (.lst (cutV zs none (some ai) ++ [av'])) = K3 at z3 f3 s3 ⊢
      refine ⟨_, rfl, _, rfl, _, _, rfl, rfl, _, rfl, ?_⟩
      unfold tNoPart
      refine ⟨A0, zs, rfl, .of (s3 _ _ hA16), fun c4 h4 => ?_⟩
      have z4 := same_upd (o := .lst (cutV zs (some (ai + 1)) none)) h4
      have f4 : upd K3 c4 (.lst (cutV zs (some (ai + 1)) none)) c4 = some (.lst (cutV zs (some (ai + 1)) none)) := upd_same
      have f3 := z4 _ _ f3
      have s4 := s3.trans z4
      generalize upd K3 c4 (.lst (cutV zs (some (ai + 1)) none)) = K4 at z4 f3 f4 s4 ⊢
      have ll : (cutV zs none (some ai) ++ [av']).length + (cutV zs (some (ai + 1)) none).length ≤ 11 := by
        rw [List.length_append]
        show _ + 1 + _ ≤ 11
        omega
      refine ⟨c3, c4, _, _, rfl, rfl, f3, f4, Nat.le_of_lt (small1000 (by omega)), fun c5 h5 => ?_⟩
      have n5 := (O16.same s4).new h5
      have z5 := same_upd (o := .lst (cutV zs none (some ai) ++ [av'] ++ cutV zs (some (ai + 1)) none)) h5
      have f5 : upd K4 c5 (.lst (cutV zs none (some ai) ++ [av'] ++ cutV zs (some (ai + 1)) none)) c5 = some (.lst (cutV zs none (some ai) ++ [av'] ++ cutV zs (some (ai + 1)) none)) := upd_same
      have s5 := s4.trans z5
      generalize upd K4 c5 (.lst (cutV zs none (some ai) ++ [av'] ++ cutV zs (some (ai + 1)) none)) = K5 at z5 f5 s5 ⊢
      refine ⟨by show 2 ≤ sizeLine; decide, fun c6 h6 => ?_⟩
      have z6 := same_upd (o := .tup [.ref g, .ref c5]) h6
      have s6 := s5.trans z6
      obtain ⟨es1, p1⟩ := paired_cut (paired_imp (fun _ _ h => DA.same h s6) pA16) none (some ai)
      obtain ⟨es2, p2⟩ := paired_cut (paired_imp (fun _ _ h => DA.same h s6) pA16) (some (ai + 1)) none
      have dl := DA.lst n5 (z6 _ _ f5) (by rw [List.length_append]; omega) (paired_app (paired_app p1 (.cons (hav'.same s6) .nil)) p2)
      exact q _ _ _ (.tup ((O16.same s5).new h6) upd_same (by show 2 ≤ 5000; decide) (.cons (dg16.same s6) (.cons dl .nil))) (C016.sm s6)
end
section
variable {P : Program} {w : World} {K : PySem.W.Frag} {mg : Str → Option Value} {base : Heap} {a : Nat → Addr} {d : Nat → FuncData}
def spCopy : Sp := fun vs H Q _ => ∃ (C : Addr → Prop) (n : Nat) (v : V) (d : PyData), vs = [v] ∧ Occ C H ∧ DA C H n v d ∧ ∀ v' H', DA C H' n v' d → Same H H' → Q v' H'
theorem ok_copy (T : Txt K mg a d) : FnOk P w K mg base CX0 1 (a 73) (d 73) ["_law_parts"] spCopy := by
  refine T.F73.ok sc__law_copy (fun vs H Q E h => ?_) (fun cdv A outer s H vs Q E hr h => ?_)
  · obtain ⟨C, n, v, d, rfl, _⟩ := h
    rfl
  · obtain ⟨C, n, v, d, rfl, hO, hv, q⟩ := h
    obtain ⟨nm, hty, _, kl, _⟩ := hv.ty (K := K)
    refine ⟨_, (pss_cons (ps_if (pt_not (pt_val (pe_callB (id := "isinstance")  call_isi (by rfl) T.z_isinstance (by decide +kernel) (pa_cons (pv 0) (pa_cons (pe_bltn (v := .ty "list") (by rfl) T.z_list (by decide +kernel) rfl) pa_nil)))))
    (pss_one (ps_ret (pv 0)))
    pss_nil)
  (pss_cons (ps_set (i := 1) sc__law_copy.nd rfl (.inl rfl) (pe_lst pa_nil))
  (pss_cons (ps_for PassesOwn.never rfl (pi_list (pv 0)) (pg_name (i := 2) sc__law_copy.nd rfl (.inl rfl))
    (pss_one (ps_if (PW.pt (pw_and (pt_val (pe_callB (id := "isinstance")  call_isi (by rfl) T.z_isinstance (by decide +kernel) (pa_cons (pv 2) (pa_cons (pe_bltn (v := .ty "tuple") (by rfl) T.z_tuple (by decide +kernel) rfl) pa_nil)))) (pw_and (pt_cmpR op_eq (pe_callB (id := "len")  call_len_seq (by rfl) T.z_len (by decide +kernel) (pa_cons (pv 2) pa_nil)) pe_int (nomark _)) (pw_and1 (pt_val (pe_callB (id := "isinstance")  call_isi (by rfl) T.z_isinstance (by decide +kernel) (pa_cons (pe_ix ix_tup (pv 2) pe_int (fun _ _ => rfl)) (pa_cons (pe_bltn (v := .ty "list") (by rfl) T.z_list (by decide +kernel) rfl) pa_nil))))))))
        (pss_one (ps_expr (pe_bm PySem.F.plainAttrs_list PySem.F.slot_list_append PySem.F.type_list_append mt_append (pv 1) (pa_cons (pe_tup (pa_cons (pe_ix ix_tup (pv 2) pe_int (fun _ _ => rfl)) (pa_cons (pe_callTy (T := "list")  call_list_of (by rfl) T.z_list (by decide +kernel) (pa_cons (pe_ix ix_tup (pv 2) pe_int (fun _ _ => rfl)) pa_nil)) pa_nil))) pa_nil))))
        (pss_one (ps_expr (pe_bm PySem.F.plainAttrs_list PySem.F.slot_list_append PySem.F.type_list_append mt_append (pv 1) (pa_cons (pv 2) pa_nil)))))))
  (pss_one (ps_ret (pv 1)))))), ?_⟩
    refine ⟨_, rfl, _, _, _, _, _, rfl, .ty _, hty, kit_ty kl, _, rfl, ?_⟩
    have stay : Q v H := q v H hv (Same.refl H)
    cases d with
    | none => exact ifT ⟨_, rfl, stay⟩
    | bool b => exact ifT ⟨_, rfl, stay⟩
    | int b => exact ifT ⟨_, rfl, stay⟩
    | str b => exact ifT ⟨_, rfl, stay⟩
    | tuple b => exact ifT ⟨_, rfl, stay⟩
    | dict b => exact ifT ⟨_, rfl, stay⟩
    | list ds =>
    obtain ⟨l, xs, k, rfl, rfl, nCl, hl, l5, pr⟩ := hv.asLst
    have hlen := Paired.length pr
    refine ifF ⟨Nat.zero_le _, fun S hS => ?_⟩
    have sS := same_upd (o := .lst []) hS
    have nCS : ¬ C S := hO.new hS
    have nlS : l ≠ S := ne_of_none hl hS
    have prS := paired_imp (fun _ _ h => DA.fresh hS h) pr
    refine ⟨_, rfl, l, rfl, ⟨_, .of (sS _ _ hl)⟩, ?_⟩
    refine for_list (K := K) (a := l) (xs := xs) (fun i σ H' => ∃ (ys : List V) (y : Option V), σ = [some (.ref l), some (.ref S), y] ∧ H' S = some (.lst ys) ∧ Paired (DA (fun x => C x ∨ x = S) H' k) ys (ds.take i) ∧ (∀ b o, b ≠ S → H b = some o → H' b = some o))
      ⟨[], none, rfl, upd_same, .nil, fun b o n e => by rw [upd_ne n]; exact e⟩ (fun i σ H' _ hp => ?_) (fun i y σ H' hy hp => ?_) (fun σ H' hp => ?_)
    · obtain ⟨ys, y, rfl, _, _, o⟩ := hp
      exact .of (o _ _ nlS hl)
    · obtain ⟨ys, y0, rfl, hSv, pS, o⟩ := hp
      obtain ⟨e, he, hye⟩ := paired_at prS hy
      have li : i < xs.length := (List.getElem?_eq_some_iff.mp hy).1
      have keep : ∀ x o', ¬ (C x ∨ x = S) → H x = some o' → H' x = some o' := fun x o' hn e => o x o' (fun e' => hn (.inr e')) e
      have hy' := hye.keep keep
      have ly := Paired.length pS
      rw [List.length_take] at ly
      -- what is put there
      have put : ∀ (z : V) (G : Hp), Same H' G → DA (fun x => C x ∨ x = S) G k z e → ∃ (ys' : List V) (y1 : Option V), ([some (.ref l), some (.ref S), some y] : List (Option V)) = [some (.ref l), some (.ref S), y1] ∧ upd G S (.lst (ys ++ [z])) S = some (.lst ys') ∧ Paired (DA (fun x => C x ∨ x = S) (upd G S (.lst (ys ++ [z]))) k) ys' (ds.take (i + 1)) ∧ (∀ b o, b ≠ S → H b = some o → upd G S (.lst (ys ++ [z])) b = some o) := fun z G sG hz => by
        have kp : ∀ x o', ¬ (C x ∨ x = S) → G x = some o' → upd G S (.lst (ys ++ [z])) x = some o' := fun x o' hn e => by
          rw [upd_ne (fun e' => hn (.inr e'))]
          exact e
        refine ⟨ys ++ [z], _, rfl, upd_same, ?_, fun b o' n e => ?_⟩
        · rw [take_snoc he]
          exact paired_app (paired_imp (fun _ _ h => (DA.same h sG).keep kp) pS) (.cons (hz.keep kp) .nil)
        · rw [upd_ne n]
          exact sG _ _ (o b o' n e)
      obtain ⟨ny, hty', kt', _⟩ := hy'.ty (K := K)
      refine ⟨_, rfl, _, _, _, _, _, rfl, .ty _, hty', kit_ty kt', _, rfl, ?_⟩
      have lz : ys.length < sizeLine := Nat.lt_of_le_of_lt (by omega : _ ≤ 5000) (by decide)
      cases e with
      | none => exact ifF ⟨_, rfl, .inl ⟨rfl, _, .of hSv⟩, _, rfl, S, ys, _, rfl, rfl, hSv, lz, put y H' (Same.refl H') hy'⟩
      | bool b => exact ifF ⟨_, rfl, .inl ⟨rfl, _, .of hSv⟩, _, rfl, S, ys, _, rfl, rfl, hSv, lz, put y H' (Same.refl H') hy'⟩
      | int b => exact ifF ⟨_, rfl, .inl ⟨rfl, _, .of hSv⟩, _, rfl, S, ys, _, rfl, rfl, hSv, lz, put y H' (Same.refl H') hy'⟩
      | str b => exact ifF ⟨_, rfl, .inl ⟨rfl, _, .of hSv⟩, _, rfl, S, ys, _, rfl, rfl, hSv, lz, put y H' (Same.refl H') hy'⟩
      | list b => exact ifF ⟨_, rfl, .inl ⟨rfl, _, .of hSv⟩, _, rfl, S, ys, _, rfl, rfl, hSv, lz, put y H' (Same.refl H') hy'⟩
      | dict b => exact ifF ⟨_, rfl, .inl ⟨rfl, _, .of hSv⟩, _, rfl, S, ys, _, rfl, rfl, hSv, lz, put y H' (Same.refl H') hy'⟩
      | tuple es =>
      obtain ⟨b, us, k', ek, rfl, nCb, hb, b5, pb⟩ := hy'.asTup
      have hlu := Paired.length pb
      refine ifT ⟨_, rfl, b, _, rfl, .inr (.of hb), rfl, _, rfl, ite_eqI (fun h2 => ?_) (fun h2 => ⟨_, rfl, .inl ⟨rfl, _, .of hSv⟩, _, rfl, S, ys, _, rfl, rfl, hSv, lz, put _ H' (Same.refl H') hy'⟩)⟩
      have h2 : us.length = 2 := by omega
      match us, es, pb, h2 with
      | [u, z], [f1, f2], .cons hu (.cons hz .nil), _ =>
      obtain ⟨nz, htz, _, kz, _⟩ := hz.ty (K := K)
      refine ⟨_, rfl, _, _, _, _, rfl, rfl, .of hb, atI_nat (j := 1) rfl, _, _, _, _, _, rfl, .ty _, htz, kit_ty kz, _, rfl, ?_⟩
      cases f2 with
      | none => exact ifF ⟨_, rfl, .inl ⟨rfl, _, .of hSv⟩, _, rfl, S, ys, _, rfl, rfl, hSv, lz, put _ H' (Same.refl H') hy'⟩
      | bool b => exact ifF ⟨_, rfl, .inl ⟨rfl, _, .of hSv⟩, _, rfl, S, ys, _, rfl, rfl, hSv, lz, put _ H' (Same.refl H') hy'⟩
      | int b => exact ifF ⟨_, rfl, .inl ⟨rfl, _, .of hSv⟩, _, rfl, S, ys, _, rfl, rfl, hSv, lz, put _ H' (Same.refl H') hy'⟩
      | str b => exact ifF ⟨_, rfl, .inl ⟨rfl, _, .of hSv⟩, _, rfl, S, ys, _, rfl, rfl, hSv, lz, put _ H' (Same.refl H') hy'⟩
      | tuple b => exact ifF ⟨_, rfl, .inl ⟨rfl, _, .of hSv⟩, _, rfl, S, ys, _, rfl, rfl, hSv, lz, put _ H' (Same.refl H') hy'⟩
      | dict b => exact ifF ⟨_, rfl, .inl ⟨rfl, _, .of hSv⟩, _, rfl, S, ys, _, rfl, rfl, hSv, lz, put _ H' (Same.refl H') hy'⟩
      | list fs =>
      obtain ⟨c, zs, k2, ek2, rfl, nCc, hc, c5, pc⟩ := hz.asLst
      refine ifT ⟨_, rfl, .inl ⟨rfl, _, .of hSv⟩, _, rfl, _, _, _, _, rfl, rfl, .of hb, atI_nat (j := 0) rfl, _, rfl, _, _, _, _, rfl, rfl, .of hb, atI_nat (j := 1) rfl, c, zs, rfl, .inl (.of hc), fun L hL => ⟨by show 2 ≤ sizeLine; decide, fun t ht => ?_⟩⟩
      have sL := same_upd (o := .lst zs) hL
      have st := same_upd (o := .tup [u, .ref L]) ht
      have occ : Occ (fun x => C x ∨ x = S) H' := fun x hx => by
        rcases hx with hx | rfl
        · obtain ⟨o1, e1⟩ := hO x hx
          have hxs : x ≠ S := fun e => nCS (e ▸ hx)
          exact ⟨o1, o x o1 hxs e1⟩
        · exact ⟨_, hSv⟩
      subst ek
      subst ek2
      have sG := sL.trans st
      have dt : DA (fun x => C x ∨ x = S) (upd (upd H' L (.lst zs)) t (.tup [u, .ref L])) (k2 + 1 + 1) (.ref t) (.tuple [f1, .list fs]) := .tup ((occ.same sL).new ht) upd_same (by show 2 ≤ 5000; decide) (.cons (hu.same sG) (.cons (.lst (occ.new hL) (st _ _ upd_same) c5 (paired_imp (fun _ _ h => DA.same h sG) pc)) .nil))
      exact ⟨S, ys, _, rfl, rfl, sG _ _ hSv, lz, put _ _ sG dt⟩
    · obtain ⟨ys, y, rfl, hSv, pS, o⟩ := hp
      rw [hlen, List.take_length] at pS
      have ly := Paired.length pS
      refine ⟨_, rfl, q _ H' (.lst nCS hSv (by omega) (paired_imp (fun _ _ h => DA.weak (fun x hx => .inl hx) h) pS)) fun b o' e => o b o' (ne_of_none e hS) e⟩
end
theorem fault_ok {ts : List (Str × Int)} {m : Nat} {w : Int} {d : PyData} (hT : Tabs ts m 4) (h : faultD ts w d = "") : ∃ hs as, d = .tuple [.tuple hs, .list as] ∧ (hs.length : Int) = w ∧ as.length ≤ 5 ∧ ∀ x ∈ as, atomD x = true ∧ 1 ≤ (atTerms x).length ∧ (atTerms x).length ≤ 4 := by
  unfold faultD at h
  have bad : ∀ s : Str, s ∈ (["form", "head", "table", "terms", "unsafe"] : List Str) → s ≠ "" := by decide +kernel
  split at h
  · exact absurd h (bad _ (by simp))
  rename_i h1
  split at h
  · exact absurd h (bad _ (by simp))
  rename_i h2
  split at h
  · exact absurd h (bad _ (by simp))
  rename_i h3
  split at h
  · exact absurd h (bad _ (by simp))
  rename_i h4
  have tr : ∀ {b : Bool}, ¬ b = false → b = true := fun {b} h => by cases b <;> simp at h ⊢
  obtain ⟨hs, as, rfl, a5, hat⟩ := form_data (tr h1)
  have h2 : termsD w hs = true := tr h2
  unfold termsD at h2
  rw [Bool.and_eq_true] at h2
  refine ⟨hs, as, rfl, of_decide_eq_true h2.1, a5, fun x hx => ?_⟩
  have h3 := List.all_eq_true.mp (tr h3) x hx
  have h4 := List.all_eq_true.mp (tr h4) x hx
  obtain ⟨s0, e0, hs0⟩ := name_data h3
  obtain ⟨w0, v0, wa, w1, w4⟩ := tab_get hT hs0
  unfold termsD at h4
  rw [Bool.and_eq_true, e0] at h4
  have h5 := of_decide_eq_true h4.1
  have h5 : ((atTerms x).length : Int) = widthAt ts s0 := h5
  exact ⟨hat x hx, by omega, by omega⟩
theorem paired_set {F : V → PyData → Prop} {x : V} {d : PyData} : ∀ {xs : List V} {ds : List PyData} (j : Nat), Paired F xs ds → F x d → Paired F (xs.set j x) (ds.set j d)
  | _, _, _, .nil, _ => .nil
  | _, _, 0, .cons r t, h => .cons h t
  | _, _, j + 1, .cons r t, h => .cons r (paired_set j t h)
section
variable {P : Program} {w : World} {K : PySem.W.Frag} {mg : Str → Option Value} {base : Heap} {a : Nat → Addr} {d : Nat → FuncData}
def spSpoil2 : Sp := fun vs H Q _ => ∃ (C : Addr → Prop) (p t L : Addr) (ts : List (Str × Int)) (m : Nat) (wi : Int) (xs : List V) (ds : List PyData) (n : Int), vs = [.ref p, .ref t, .int wi, .ref L, .int n] ∧ C p ∧ C L ∧ p ≠ L ∧ Cell H p ∧ Occ C H ∧ H t = some (.dK (tabK ts)) ∧ ts.length ≤ 5 ∧ Tabs ts m 4 ∧ wi ≤ 12 ∧ H L = some (.lst xs) ∧ Paired (DA C H 5) xs ds ∧ xs.length ≤ 10 ∧ 0 ≤ n ∧ n ≤ 5 ∧
  ∀ xs' ds' H', H' L = some (.lst xs') → Paired (DA C H' 5) xs' ds' → xs'.length = xs.length → Cell H' p → (∀ b o, b ≠ p → b ≠ L → H b = some o → H' b = some o) → Q .non H'
theorem ok_spoil2 (T : Txt K mg a d) : FnOk P w K mg base CX0 4 (a 75) (d 75) ["_law_state_here", "_law_tables_here", "_law_width", "_law_parts", "_law_changes"] spSpoil2 := by
  have G59 : FnOk P w K mg base CX0 1 (a 59) (d 59) ["_law_state_here", "_law_many_here"] spPick2 := ok_pick2 T
  have G68 : FnOk P w K mg base CX0 3 (a 68) (d 68) ["_law_tables_here", "_law_width", "_law_part_here"] spFaultL := ok_faultL T
  have G72 : FnOk P w K mg base CX0 3 (a 72) (d 72) ["_law_state_here", "_law_part_here"] spBadPart := ok_bad_part T
  refine T.F75.ok sc__law_spoil (fun vs H Q E h => ?_) (fun cdv A outer s H vs Q E hr h => ?_)
  · obtain ⟨C, p, t, L, ts, m, wi, xs, ds, n, rfl, _⟩ := h
    rfl
  · obtain ⟨C, p, t, L, ts, m, wi, xs0, ds0, n, rfl, hc, hcL, npL, hP, hO, ht, t5, hT, w12, hL, pr0, x10, n0, n5, q⟩ := h
    refine ⟨_, (pss_one (ps_for PassesOwn.never rfl (pi_range1 (by rfl) T.z_range (pa_cons (pv 4) pa_nil)) (pg_name (i := 5) sc__law_spoil.nd rfl (.inl rfl))
    (pss_one (ps_if (pt_cmpR (op_neE (Nat.lt_of_le_of_lt (Nat.le_add_right _ 64) (hu_of64 hr))) (pv 3) (pe_lst pa_nil) (nomark _))
        (pss_cons (ps_set (i := 6) sc__law_spoil.nd rfl (.inl rfl) (pe_call G59 (hr.mono (by decide)) (by rfl) T.g59 T.F59.kp T.b59 .nil pass0 (pa_cons (pv 0) (pa_cons (pe_callB (id := "len")  call_len_seq (by rfl) T.z_len (by decide +kernel) (pa_cons (pv 3) pa_nil)) pa_nil))))
          (pss_one (ps_if (pt_cmpR op_eq (pe_call G68 (hr.mono (by decide)) (by rfl) T.g68 T.F68.kp T.b68 .nil pass0 (pa_cons (pv 1) (pa_cons (pv 2) (pa_cons (pe_ix ix_list (pv 3) (pv 6) (fun _ _ => rfl)) pa_nil)))) pe_str (nomark _))
            (pss_one (ps_asg (pe_call G72 (hr.mono (by decide)) (by rfl) T.g72 T.F72.kp T.b72 .nil pass0 (pa_cons (pv 0) (pa_cons (pe_ix ix_list (pv 3) (pv 6) (fun _ _ => rfl)) pa_nil))) (pg_sub (pv 3) (pv 6) set_list)))
            pss_nil)))
        pss_nil)))), ?_⟩
    have ntp : t ≠ p := cell_ne hP ht (by intro _ z; cases z)
    have ntL : t ≠ L := ne_of ht hL (by intro z; cases z)
    refine ⟨_, rfl, _, rfl, by omega, by omega, ?_⟩
    refine for_range (lo := 0) (n := n.toNat) (fun i σ H' => ∃ (xs : List V) (ds : List PyData) (y5 y6 : Option V), σ = [some (.ref p), some (.ref t), some (.int wi), some (.ref L), some (.int n), y5, y6] ∧ H' L = some (.lst xs) ∧ Paired (DA C H' 5) xs ds ∧ xs.length = xs0.length ∧ Cell H' p ∧ (∀ b o, b ≠ p → b ≠ L → H b = some o → H' b = some o))
      ⟨xs0, ds0, none, none, rfl, hL, pr0, rfl, hP, fun b o _ _ e => e⟩ (fun i σ H' hi hp => ?_) (fun σ H' hp => ?_)
    · obtain ⟨xs, ds, y5, y6, rfl, hL', pr, lx, hP', o⟩ := hp
      have O' : Occ C H' := fun x hx => by
        by_cases e1 : x = p
        · obtain ⟨i1, i2, e⟩ := hP'
          rw [e1]
          exact ⟨_, e⟩
        · by_cases e2 : x = L
          · rw [e2]
            exact ⟨_, hL'⟩
          · obtain ⟨o1, e⟩ := hO x hx
            exact ⟨o1, o x o1 e1 e2 e⟩
      refine ⟨_, rfl, Nat.zero_le _, fun e0 he0 => ?_⟩
      have z0 := same_upd (o := .lst []) he0
      have pr1 := paired_imp (fun _ _ h => DA.same h z0) pr
      have o1 : ∀ b o', b ≠ p → b ≠ L → H b = some o' → upd H' e0 (.lst []) b = some o' := fun b o' h1 h2 e => z0 _ _ (o b o' h1 h2 e)
      have hP1 := hP'.same z0
      have O1 := O'.same z0
      have hL1 := z0 _ _ hL'
      refine ⟨L, e0, xs, rfl, rfl, hL1, upd_same, _, rfl, ?_⟩
      generalize upd H' e0 (.lst []) = H1 at pr1 o1 hP1 O1 hL1 ⊢
      cases xs with
      | nil => exact ifF ⟨[], ds, _, _, rfl, hL1, pr1, lx, hP1, o1⟩
      | cons x1 xs1 =>
      refine ifT ?_
      generalize hxs : x1 :: xs1 = xs at *
      have lpos : 0 < xs.length := by rw [← hxs]; exact Nat.succ_pos _
      refine ⟨_, rfl, _, rfl, L, _, rfl, .inl (.of hL1), p, (xs.length : Int), rfl, hP1, by omega, by rw [Int.natAbs_natCast]; exact Nat.lt_of_le_of_lt (by omega : _ ≤ 10) (by decide), fun ai H2 a0 a1 C2 => ?_⟩
      have hL2 := C2.at npL.symm hL1
      obtain ⟨v, hv⟩ := at_some (xs := xs) a0 a1
      have pr2 := paired_imp (fun _ _ h => DA.chs h C2 hc) pr1
      obtain ⟨e, hem, hve⟩ := paired_any pr2 (atI_mem hv)
      have o2 : ∀ b o', b ≠ p → b ≠ L → H b = some o' → H2 b = some o' := fun b o' h1 h2 e => C2.at h1 (o1 b o' h1 h2 e)
      refine ⟨_, rfl, _, rfl, _, rfl, _, rfl, _, _, _, _, rfl, rfl, .of hL2, hv, C, 5, t, ts, m, wi, v, e, rfl, by decide, o2 _ _ ntp ntL ht, t5, hT, hve, fun H3 s3 => ?_⟩
      have o3 : ∀ b o', b ≠ p → b ≠ L → H b = some o' → H3 b = some o' := fun b o' h1 h2 e => s3 _ _ (o2 b o' h1 h2 e)
      have pr3 := paired_imp (fun _ _ h => DA.same h s3) pr2
      have hL3 := s3 _ _ hL2
      have hP3 := C2.1.same s3
      refine ⟨rfl, _, rfl, ite_d (fun hf => ?_) (fun _ => ⟨xs, ds, _, _, rfl, hL3, pr3, lx, hP3, o3⟩)⟩
      have hf : faultD ts wi e = "" := V.str.inj hf
      obtain ⟨hs, as, rfl, lw, la, hat⟩ := fault_ok hT hf
      have hve3 := hve.same s3
      obtain ⟨b, us, k, ek, rfl, _, _, _, _⟩ := hve3.asTup
      have O3 : Occ C H3 := (O1.chs C2).same s3
      refine ⟨_, rfl, _, rfl, _, rfl, _, _, _, _, rfl, rfl, .of hL3, hv, C, p, b, hs, as, rfl, hc, hP3, O3, hve3, by omega, la, hat, fun v' d' H4 hd' C4 => ?_⟩
      have hL4 := C4.at npL.symm hL3
      obtain ⟨j, hj, ej⟩ : ∃ j : Nat, j < xs.length ∧ ai = (j : Int) := ⟨ai.toNat, by omega, by omega⟩
      refine ⟨_, rfl, _, rfl, _, _, _, j, rfl, rfl, hL4, by rw [ej]; exact ixN_at hj, ?_⟩
      have kp : ∀ x o', ¬ C x → H4 x = some o' → upd H4 L (.lst (xs.set j v')) x = some o' := fun x o' hn e => by
        rw [upd_ne (fun e' : x = L => hn (by rw [e']; exact hcL))]
        exact e
      refine ⟨xs.set j v', ds.set j d', _, _, rfl, upd_same, paired_set j (paired_imp (fun _ _ h => (DA.chs h C4 hc).keep kp) pr3) (hd'.keep kp), by rw [List.length_set]; exact lx, ?_, fun b o' h1 h2 e => ?_⟩
      · obtain ⟨i1, i2, e⟩ := C4.1
        exact ⟨i1, i2, by rw [upd_ne npL]; exact e⟩
      · rw [upd_ne h2]
        exact C4.at h1 (o3 b o' h1 h2 e)
    · obtain ⟨xs, ds, y5, y6, rfl, hL', pr, lx, hP', o⟩ := hp
      exact q xs ds H' hL' pr lx hP' o
end
section
variable {P : Program} {w : World} {K : PySem.W.Frag} {mg : Str → Option Value} {base : Heap} {a : Nat → Addr} {d : Nat → FuncData}
theorem all_true {n : Nat} : inV (.bl false) ((List.replicate n true).map V.bl) = false := by
  rw [in_false]
  have : (List.replicate n true).all id = true := List.all_eq_true.mpr fun x hx => by rw [List.eq_of_mem_replicate hx]; rfl
  rw [this]
  rfl
def spBack (CS CQ : Addr) : Sp := fun vs H Q _ => ∃ (C : Addr → Prop) (n : Nat) (p sp : Addr) (ts : List (Str × Int)) (ks : List KeyE) (ss : List SvE) (m ms : Nat) (wi : Int) (xp : V) (ds : List PyData), vs = [.ref p, .ref sp, .int wi, xp] ∧ n ≤ 50 ∧ Occ C H ∧ QAt CQ p sp C n H wi ds ∧ SchAt CS sp H ts ks ss m ms ∧ DA C H n xp (.list ds) ∧ ∀ H', Same H H' → Q (.bl true) H'
theorem ok_back (T : Txt K mg a d) : FnOk P w K mg base CX0 4 (a 76) (d 76) ["_law_question", "_law_schema", "_law_width", "_law_parts"] (spBack (a 42) (a 56)) := by
  have G5204 : FnOk P w K mg base CX0 1 (a 5204) (d 5204) ["self", "other"] (spSEq (a 42)) := ok_seq T
  have G6601 : FnOk P w K mg base CX0 1 (a 6601) (d 6601) ["self"] (spPartL (a 56)) := ok_partl T
  refine T.F76.ok sc__law_back (fun vs H Q E h => ?_) (fun cdv A outer s H vs Q E hr h => ?_)
  · obtain ⟨C, n, p, sp, ts, ks, ss, m, ms, wi, xp, ds, rfl, _⟩ := h
    rfl
  · obtain ⟨C, n, p, sp, ts, ks, ss, m, ms, wi, xp, ds, rfl, n50, hO, hQ, hS, hxp, q⟩ := h
    refine ⟨_, (pss_cons (ps_if (PW.pt (pw_or (pt_val (pe_callB (id := "isinstance")  call_isi (by rfl) T.z_isinstance (by decide +kernel) (pa_cons (pe_fld (pv 0) rfl) (pa_cons (pe_bltn (v := .ty "bool") (by rfl) T.z_bool (by decide +kernel) rfl) pa_nil)))) (pw_or (pt_cmpR op_ne (pe_fld (pv 0) rfl) (pv 2) (nomark _)) (pw_or1 (pt_cmpR (op_neO (E := fun _ _ _ => False) G5204 (hr.mono (by decide)) (hu_of hr) T.om_42 T.ne_42 T.m_5204.at_ T.m_5204.fn T.b5204 pass0) (pe_fld (pv 0) rfl) (pv 1) (nomark _))))))
    (pss_one (ps_ret pe_bl))
    pss_nil)
  (pss_cons (ps_set (i := 4) sc__law_back.nd rfl (.inl rfl) (pe_meth0 (pv 0) T.cl_56 T.m_6601 G6601 (hr.mono (by decide)) T.b6601 .nil pass0))
  (pss_cons (ps_if (pt_not (pt_val (pe_callB (id := "isinstance")  call_isi (by rfl) T.z_isinstance (by decide +kernel) (pa_cons (pv 4) (pa_cons (pe_bltn (v := .ty "list") (by rfl) T.z_list (by decide +kernel) rfl) pa_nil)))))
    (pss_one (ps_ret pe_bl))
    pss_nil)
  (pss_cons (ps_setLc (i := 5) (own := [("_law_part_here", 6)]) rfl sc__law_back.nd rfl rfl (sw_true rfl rfl rfl (by decide +kernel)) (pi_list (pv 4)) (blkOk_by (N := ["_law_question", "_law_schema", "_law_width", "_law_parts", "_law_back_here", "_law_kinds", "_law_part_here"]) (sc := defScope s__law_back) (by decide +kernel)) (fun _ _ _ _ _ => pg_name (i := 6) sc__law_back.nd rfl (.inl rfl)) (fun _ _ _ _ _ => pts_nil) (fun _ _ _ _ _ => (pe_and (pe_callB (id := "isinstance") (r := rIsi K)  call_isi (by rfl) T.z_isinstance (by decide +kernel) (pa_cons (pv 6) (pa_cons (pe_bltn (v := .ty "tuple") (by rfl) T.z_tuple (by decide +kernel) rfl) pa_nil))) (pe_and (pe_cmpR op_eq (pe_callB (id := "len") (r := Evl.rLenS K)  call_len_seq (by rfl) T.z_len (by decide +kernel) (pa_cons (pv 6) pa_nil)) pe_int (nomark _)) (pe_one (pe_callB (id := "isinstance") (r := rIsi K)  call_isi (by rfl) T.z_isinstance (by decide +kernel) (pa_cons (pe_ix (r := rIxT K) ix_tup (pv 6) pe_int (fun _ _ => rfl)) (pa_cons (pe_bltn (v := .ty "list") (by rfl) T.z_list (by decide +kernel) rfl) pa_nil))))))))
  (pss_one (ps_ret (pe_and (pe_cmpR op_notIn_seq pe_bl (pv 5) (by rfl)) (pe_one (pe_cmpR (op_eqD (hu_of64 hr)) (pv 4) (pv 3) (nomark _)))))))))), ?_⟩
    obtain ⟨dx, l, hp, hl, hform⟩ := id hQ
    obtain ⟨dy, d1, d2, d3, O⟩ := id hS
    have kib : kitB "int" "bool" = some false := by decide +kernel
    refine ⟨_, rfl, p, _, dx, _, _, rfl, hp, T.cl_56, T.no_56_width, flds_qw _ _ _, _, _, _, _, _, rfl, .ty _, .base (.int _), kit_ty kib, _, rfl, ifF ?_⟩
    refine ⟨_, rfl, p, _, dx, _, _, rfl, hp, T.cl_56, T.no_56_width, flds_qw _ _ _, _, rfl, rfl, _, rfl, ite_nd (fun h => absurd rfl h) (fun _ => ?_)⟩
    refine ⟨_, rfl, p, _, dx, _, _, rfl, hp, T.cl_56, T.no_56_schema, flds_qs _ _ _, _, rfl, sp, sp, dy, dy, _, _, rfl, rfl, O.ob, O.ob, sp, sp, ts, ks, ss, m, ms, ts, ks, ss, m, ms, rfl, hS, hS, _, rfl, ?_⟩
    rw [schB_refl O.hT O.hK O.hS]
    refine ⟨_, rfl, ifF ?_⟩
    refine ⟨_, rfl, p, dx, _, rfl, hp, rfl, C, n, p, sp, wi, ds, rfl, hO, hQ, fun l2 H2 hl2 s2 => ?_⟩
    obtain ⟨l', xs, k, ek, e0, nCl, hl', l5, pr⟩ := hl2.asLst
    cases e0
    have hlen := Paired.length pr
    obtain ⟨nm, hty, _, kl, _⟩ := hl2.ty (K := K)
    refine ⟨_, rfl, _, _, _, _, _, rfl, .ty _, hty, kit_ty kl, _, rfl, ifF ?_⟩
    refine ⟨_, rfl, l2, rfl, ⟨_, .of hl'⟩, fun D hD => ?_⟩
    refine lc_list (K := K) (a := l2) (xs := xs) (fun i H' => H' D = some (.lst ((List.replicate i true).map V.bl)) ∧ Same H2 H') ⟨upd_same, same_upd hD⟩ (fun i H' _ hp' => .of (hp'.2 _ _ hl')) (fun i y H' hy hp' => ?_) (fun H3 hp' => ?_)
    · obtain ⟨e, he, hye⟩ := paired_at pr hy
      have li : i < xs.length := (List.getElem?_eq_some_iff.mp hy).1
      obtain ⟨hs, as, rfl⟩ := hform e (List.mem_of_getElem? he)
      have hye' := hye.same hp'.2
      obtain ⟨ny, hty', kt', _⟩ := hye'.ty (K := K)
      obtain ⟨b, us, k', ek', rfl, _, hb, _, pb⟩ := hye'.asTup
      match us, pb with
      | [u, z], .cons hu (.cons hz .nil) =>
      obtain ⟨nz, htz, _, kz, _⟩ := hz.ty (K := K)
      refine ⟨rfl, _, rfl, _, _, _, _, _, rfl, .ty _, hty', kit_ty kt', _, rfl, ifT ⟨_, rfl, b, _, rfl, .inr (.of hb), rfl, _, rfl, ifT ?_⟩⟩
      refine ⟨_, rfl, _, _, _, _, rfl, rfl, .of hb, atI_nat (j := 1) rfl, _, _, _, _, _, rfl, .ty _, htz, kit_ty kz, _, hp'.1, ?_, ?_, fun x o ex => ?_⟩
      · rw [List.length_map, List.length_replicate]
        exact Nat.lt_of_le_of_lt (by omega : _ ≤ 5000) (by decide)
      · rw [List.replicate_succ', List.map_append]
        exact upd_same
      · rw [upd_ne (ne_of_none ex hD)]
        exact hp'.2 x o ex
    obtain ⟨h1, s3⟩ := hp'
    refine ⟨_, rfl, D, _, rfl, .inl (.of h1), rfl, flat_bls _, _, rfl, ?_⟩
    rw [if_pos rfl, all_true]
    refine ifT ?_
    have s23 := s2.trans s3
    refine ⟨_, rfl, _, rfl, .list ds, .list ds, (hl2.same s3).dp, (hxp.same s23).dp, hl2.shaped (by omega), hl2.shaped (by omega), ?_⟩
    rw [hl2.refl]
    exact q H3 s23
end
theorem putK_one (n : Str) (v : V) : mergeK ([] : List (Key × V)) [(Sum.inr n, v)] = [(Sum.inr n, v)] := rfl
def sv1 (sn : Str) (sv : Addr) (n : Str) (ga : Addr) : SvE := ⟨sn, sv, n, ga, [], none⟩
theorem svcs1 {H : Hp} {ts : List (Str × Int)} {sn n : Str} {sv ga : Addr} (hw : Wd sn) (hn : n ∈ ts.map (·.1)) (h1 : H sv = some (.tup [.str n, .ref ga, .non])) (h2 : H ga = some (.tup [])) : Svcs H ts [] [sv1 sn sv n ga] 1 := by
  refine ⟨⟨rfl, by simp, fun s hs => ?_⟩, fun b hb => ?_, ?_⟩
  · have hs : s ∈ [sn] := hs
    rw [List.mem_singleton.mp hs]
    exact hw
  · rw [List.mem_singleton.mp hb]
    obtain ⟨b0, hb0, e⟩ := List.mem_map.mp hn
    exact ⟨⟨h1, h2⟩, ⟨b0.2, by rw [← e]; exact hb0, ⟨.nil, fun c hc => by cases hc⟩, Nat.zero_le _⟩, fun c hc => by cases hc⟩
  · unfold fillE
    have : ∀ l : List SvE, l.length ≤ 1 → (l.map (·.tab)).Nodup := by
      intro l hl
      match l, hl with
      | [], _ => exact List.nodup_nil
      | [x], _ => simp
    exact this _ (List.length_filter_le _ [sv1 sn sv n ga])
theorem keys0 {H : Hp} {ts : List (Str × Int)} : Keys H ts [] := ⟨List.nodup_nil, Nat.zero_le _, (fun b hb => by cases hb), (fun b hb => by cases hb)⟩
theorem fault_empty (ts : List (Str × Int)) : faultD ts 0 (.tuple [.tuple [], .list []]) = "" := rfl
section
variable {P : Program} {w : World} {K : PySem.W.Frag} {mg : Str → Option Value} {base : Heap} {a : Nat → Addr} {d : Nat → FuncData}
def spMany : Sp := fun vs H Q _ => ∃ (p : Addr), vs = [.ref p] ∧ Cell H p ∧ ∀ H', Chs p H H' → Q (.bl true) H'
theorem ok_many (T : Txt K mg a d) : FnOk P w K mg base CX0 9 (a 74) (d 74) ["_law_state_here"] spMany := by
  have G59 : FnOk P w K mg base CX0 1 (a 59) (d 59) ["_law_state_here", "_law_many_here"] spPick2 := ok_pick2 T
  have G5200 : FnOk P w K mg base CX0 5 (a 5200) (d 5200) ["self", "tables", "keys", "services"] (spSInit (a 42)) := ok_sinit T
  have G6600 : FnOk P w K mg base (L2.CX P w) 7 (a 6600) (d 6600) ["self", "schema", "width", "parts"] (spQInit (a 42) (a 56) (a 7)) := ok_qinit T
  refine T.F74.ok sc__law_many (fun vs H Q E h => ?_) (fun cdv A outer s H vs Q E hr h => ?_)
  · obtain ⟨p, rfl, _⟩ := h
    rfl
  · obtain ⟨p, rfl, hP, q⟩ := h
    refine ⟨_, (pss_cons (ps_set (i := 1) sc__law_many.nd rfl (.inl rfl) (pe_op op_add pe_int (pe_call G59 (hr.mono (by decide)) (by rfl) T.g59 T.F59.kp T.b59 .nil pass0 (pa_cons (pv 0) (pa_cons pe_int pa_nil)))))
  (pss_cons (ps_set (i := 2) sc__law_many.nd rfl (.inl rfl) (pe_op op_rep (pe_lst (pa_cons (pe_tup (pa_cons (pe_tup pa_nil) (pa_cons (pe_lst pa_nil) pa_nil))) pa_nil)) (pv 1)))
  (pss_cons (ps_try_as (i := 3) (Wout := fun _ _ _ _ => False) rfl rfl sc__law_many.nd rfl rfl ⟨rfl, by decide, Or.inl T.cg_7⟩ takes0
    (fun W pn xe tk po => (pss_one (ps_expr (pe_makeX T.M_56 G6600 (hr.mono (by decide)) (by rfl) T.cg_56 T.b6600 (fun σ => passAt tk σ) (pa_cons (pe_make T.M_42 G5200 (hr.mono (by decide)) (by rfl) T.cg_42 T.b5200 .nil pass0 (pa_cons (pe_disp (pps_cons pe_str pe_int pps_nil) (by rfl) (by rfl) (fun z => by cases z) (by decide)) (pa_cons pe_dnewK (pa_cons (pe_disp (pps_cons pe_str (pe_tup (pa_cons pe_str (pa_cons (pe_tup pa_nil) (pa_cons pe_non pa_nil)))) pps_nil) (by rfl) (by rfl) (fun z => by cases z) (by decide)) pa_nil)))) (pa_cons pe_int (pa_cons (pv 2) pa_nil)))))))
    (fun ea oe cls ed pn hz hf => (pss_one (ps_ret (pe_and (pe_cmpR op_eq (pv 1) pe_int (nomark _)) (pe_one (pe_cmpR (r := rEqD K) (op_eqD (by have h := hu_of64 hr; exact h)) (pe_tup (pa_cons (pe_xf T.xf_7 T.no_7_part hz hf (pv 3)) (pa_cons (pe_xf T.xf_7 T.no_7_at hz hf (pv 3)) pa_nil))) (pe_tup (pa_cons pe_str (pa_cons (pe_un un_neg pe_int) pa_nil))) (nomark _))))))))
  (pss_one (ps_ret (pe_cmpR op_eq (pv 1) pe_int (nomark _))))))), ?_⟩
    refine ⟨_, rfl, p, 2, rfl, hP, by decide, by decide, fun r G0 r0 r1 C1 => ⟨_, _, rfl, rfl, ?_⟩⟩
    generalize hC : (fun x => x = p : Addr → Prop) = C
    have hc : C p := by rw [← hC]
    have hO1 : Occ C G0 := fun x hx => by
      rw [← hC] at hx
      obtain ⟨i, j, e⟩ := C1.1
      exact ⟨_, by rw [show x = p from hx]; exact e⟩
    clear hC
    have s0 := Same.refl G0
    refine ⟨Nat.zero_le _, fun t1 h1 => ?_⟩
    have z1 := same_upd (o := HO.tup []) h1
    have s1 := s0.trans z1
    have e1 : upd G0 t1 (HO.tup []) t1 = some (HO.tup []) := upd_same
    have n1 := (hO1.same s0).new h1
    generalize upd G0 t1 (HO.tup []) = G1 at s1 e1 ⊢
    clear z1 h1
    refine ⟨Nat.zero_le _, fun t2 h2 => ?_⟩
    have z2 := same_upd (o := HO.lst []) h2
    have s2 := s1.trans z2
    have e2 : upd G1 t2 (HO.lst []) t2 = some (HO.lst []) := upd_same
    have e1 := z2 _ _ e1
    have n2 := (hO1.same s1).new h2
    generalize upd G1 t2 (HO.lst []) = G2 at s2 e1 e2 ⊢
    clear z2 h2
    refine ⟨by show 2 ≤ sizeLine; decide, fun t3 h3 => ?_⟩
    have z3 := same_upd (o := HO.tup [.ref t1, .ref t2]) h3
    have s3 := s2.trans z3
    have e3 : upd G2 t3 (HO.tup [.ref t1, .ref t2]) t3 = some (HO.tup [.ref t1, .ref t2]) := upd_same
    have e1 := z3 _ _ e1
    have e2 := z3 _ _ e2
    have n3 := (hO1.same s2).new h3
    generalize upd G2 t3 (HO.tup [.ref t1, .ref t2]) = G3 at s3 e1 e2 e3 ⊢
    clear z3 h3
    refine ⟨by show 1 ≤ sizeLine; decide, fun t4 h4 => ?_⟩
    have z4 := same_upd (o := HO.lst [.ref t3]) h4
    have s4 := s3.trans z4
    have e4 : upd G3 t4 (HO.lst [.ref t3]) t4 = some (HO.lst [.ref t3]) := upd_same
    have e1 := z4 _ _ e1
    have e2 := z4 _ _ e2
    have e3 := z4 _ _ e3
    have n4 := (hO1.same s3).new h4
    generalize upd G3 t4 (HO.lst [.ref t3]) = G4 at s4 e1 e2 e3 e4 ⊢
    clear z4 h4
    refine ⟨_, rfl, t4, 4000 + r, _, rfl, rfl, e4, by omega, by omega, by show 1 * (4000 + r).toNat ≤ sizeLine; exact Nat.le_trans (by omega : _ ≤ 5000) (by decide), fun t5 h5 => ?_⟩
    have z5 := same_upd (o := HO.lst (List.replicate (4000 + r).toNat [V.ref t3]).flatten) h5
    have s5 := s4.trans z5
    have e5 : upd G4 t5 (HO.lst (List.replicate (4000 + r).toNat [V.ref t3]).flatten) t5 = some (HO.lst (List.replicate (4000 + r).toNat [V.ref t3]).flatten) := upd_same
    have e1 := z5 _ _ e1
    have e2 := z5 _ _ e2
    have e3 := z5 _ _ e3
    have n5 := (hO1.same s4).new h5
    generalize upd G4 t5 (HO.lst (List.replicate (4000 + r).toNat [V.ref t3]).flatten) = G5 at s5 e1 e2 e3 e5 ⊢
    clear z5 h5
    have d1 : DA C G5 1 (.ref t1) (.tuple []) := .tup n1 e1 (Nat.zero_le _) .nil
    have d2 : DA C G5 1 (.ref t2) (.list []) := .lst n2 e2 (Nat.zero_le _) .nil
    have d3 : DA C G5 2 (.ref t3) (.tuple [.tuple [], .list []]) := .tup n3 e3 (by show 2 ≤ 5000; decide) (.cons d1 (.cons d2 .nil))
    have pr := paired_rep d3 (4000 + r).toNat
    have lr : (List.replicate (4000 + r).toNat [V.ref t3]).flatten.length = (4000 + r).toNat := by rw [Paired.length pr, List.length_replicate]
    have d5 : DA C G5 3 (.ref t5) (.list (List.replicate (4000 + r).toNat (.tuple [.tuple [], .list []]))) := .lst n5 e5 (by rw [lr]; omega) pr
    clear d1 d2 d3 pr lr e1 e2 e3 e5 n1 n2 n3 n4 n5 s1 s2 s3 s4
    refine fun t6 h6 => ⟨upd_same, [(Sum.inr "a", .int 1)], rfl, by decide, ?_⟩
    have z6 : Same G5 (upd (upd G5 t6 (.dK [])) t6 (.dK (mergeK [] [(Sum.inr "a", V.int 1)]))) := fun b o e => by
      rw [upd_ne (ne_of_none e h6), upd_ne (ne_of_none e h6)]
      exact e
    have e6 : upd (upd G5 t6 (.dK [])) t6 (.dK (mergeK [] [(Sum.inr "a", V.int 1)])) t6 = some (.dK (tabK [("a", 1)])) := upd_same
    generalize upd (upd G5 t6 (.dK [])) t6 (.dK (mergeK [] [(Sum.inr "a", V.int 1)])) = G6 at z6 e6 ⊢
    intro t7 h7
    have z7 := same_upd (o := .dK []) h7
    have e7 : upd G6 t7 (.dK []) t7 = some (.dK []) := upd_same
    have e6 := z7 _ _ e6
    generalize upd G6 t7 (.dK []) = G7 at z7 e6 e7 ⊢
    intro t8 h8
    have z8 := same_upd (o := .dK []) h8
    have e8 : upd G7 t8 (.dK []) t8 = some (.dK []) := upd_same
    have n67 : t6 ≠ t8 ∧ t7 ≠ t8 := ⟨ne_of_none e6 h8, ne_of_none e7 h8⟩
    have e7 := z8 _ _ e7
    have e6 := z8 _ _ e6
    generalize upd G7 t8 (.dK []) = G8 at z8 e6 e7 e8 ⊢
    refine ⟨Nat.zero_le _, fun t9 h9 => ?_⟩
    have z9 := same_upd (o := .tup []) h9
    have e9 : upd G8 t9 (.tup []) t9 = some (.tup []) := upd_same
    have e8 := z9 _ _ e8
    have e7 := z9 _ _ e7
    have e6 := z9 _ _ e6
    generalize upd G8 t9 (.tup []) = G9 at z9 e6 e7 e8 e9 ⊢
    refine ⟨by show 3 ≤ sizeLine; decide, fun t10 h10 => ?_⟩
    have z10 := same_upd (o := .tup [.str "a", .ref t9, .non]) h10
    have e10 : upd G9 t10 (.tup [.str "a", .ref t9, .non]) t10 = some (.tup [.str "a", .ref t9, .non]) := upd_same
    have e9 := z10 _ _ e9
    have e8 := z10 _ _ e8
    have e7 := z10 _ _ e7
    have e6 := z10 _ _ e6
    generalize upd G9 t10 (.tup [.str "a", .ref t9, .non]) = G10 at z10 e6 e7 e8 e9 e10 ⊢
    refine ⟨e8, [(Sum.inr "b", .ref t10)], rfl, by show 1 ≤ 15; decide, ?_⟩
    have n8 : ∀ b o, b ≠ t8 → G10 b = some o → upd G10 t8 (.dK (mergeK [] [(Sum.inr "b", V.ref t10)])) b = some o := fun b o n e => by
      rw [upd_ne n]
      exact e
    have e11 : upd G10 t8 (.dK (mergeK [] [(Sum.inr "b", V.ref t10)])) t8 = some (.dK (svK [sv1 "b" t10 "a" t9])) := upd_same
    have z11 : Same G7 (upd G10 t8 (.dK (mergeK [] [(Sum.inr "b", V.ref t10)]))) := fun b o e => n8 b o (ne_of_none e h8) (z10 _ _ (z9 _ _ (z8 _ _ e)))
    have e6 := n8 _ _ n67.1 e6
    have e7 := n8 _ _ n67.2 e7
    have e9 := n8 _ _ (fun e => by rw [e, e8] at e9; cases e9) e9
    have e10 := n8 _ _ (fun e => by rw [e, e8] at e10; cases e10) e10
    generalize upd G10 t8 (.dK (mergeK [] [(Sum.inr "b", V.ref t10)])) = G11 at z11 e6 e7 e9 e10 e11 ⊢
    have s11 : Same G0 G11 := ((s5.trans z6).trans z7).trans z11
    have d11 := ((d5.same z6).same z7).same z11
    clear n8 z8 z9 z10 n67 h8 h9 h10
    have wa : Wd "a" := ⟨by decide +kernel, by decide +kernel, by decide +kernel⟩
    have wb : Wd "b" := ⟨by decide +kernel, by decide +kernel, by decide +kernel⟩
    have hT : Tabs [(("a" : Str), (1 : Int))] 1 4 := ⟨⟨rfl, by simp, fun s hs => by
      have hs : s ∈ [("a" : Str)] := hs
      rw [List.mem_singleton.mp hs]
      exact wa⟩, fun b hb => by
      rw [List.mem_singleton.mp hb]
      exact ⟨by decide, by decide⟩⟩
    refine fun x dx fx fdx ndx => mk_schema (.of e6) (.of (kvs := keyK []) e7) (.of e11) hT keys0 (svcs1 wb (by simp) e10 e9) (by decide) (by decide) (by decide) (by decide) fx fdx ndx fun G12 hS s12 => ?_
    have s012 := s11.trans s12
    have d12 := d11.same s12
    have O12 := hO1.same s012
    have C12 := C1.sm s012
    refine ⟨_, rfl, ?_⟩
    intro y dy fy fdy ndy
    have z13 : Same G12 (upd (upd G12 dy (.own y)) y (.ins (a 56) dy [])) := (same_upd fdy).trans (same_upd (by rw [upd_ne ndy.symm]; exact fy))
    have hy13 : upd (upd G12 dy (.own y)) y (.ins (a 56) dy []) y = some (.ins (a 56) dy []) := upd_same
    generalize upd (upd G12 dy (.own y)) y (.ins (a 56) dy []) = G13 at z13 hy13 ⊢
    have ey : y ≠ p := C12.1.ne fy
    have C13 := C12.sm z13
    have due0 : r = 0 → dueD [(("a" : Str), (1 : Int))] (.int 0) (.list (List.replicate (4000 + r).toNat (.tuple [.tuple [], .list []]))) = none := fun h => by
      rw [due_l (wi := 0) rfl (by rw [List.length_replicate]; omega), firstD_none fun x hx => by rw [List.eq_of_mem_replicate hx]; exact fault_empty _]
      rfl
    have due1 : r = 1 → dueD [(("a" : Str), (1 : Int))] (.int 0) (.list (List.replicate (4000 + r).toNat (.tuple [.tuple [], .list []]))) = some (("parts" : Str), (-1 : Int)) := fun h => due_p (wi := 0) rfl fun ds e => by
      cases e
      rw [List.length_replicate]
      omega
    refine ⟨C, 3, y, dy, x, _, _, _, 1, 1, .int 0, .ref t5, .int 0, _, rfl, hy13, O12.same z13, by decide, hS.same z13, Sc.da (.int 0), d12.same z13, fun ds' hn e' l G14 hq hl o => ⟨rfl, ?_⟩, fun s i he G14 s14 => ?_⟩
    · have hr0 : r = 0 := by
        rcases (show r = 0 ∨ r = 1 by omega) with h | h
        · exact h
        · rw [due1 h] at hn
          cases hn
      subst hr0
      refine ⟨_, rfl, rfl, q G14 ⟨?_, fun b o' nb eb => ?_⟩⟩
      · obtain ⟨i, j, e⟩ := C13.1
        exact ⟨i, j, o p _ ey.symm e⟩
      · have e12 := C12.2 b o' nb eb
        exact o b o' (ne_of_none e12 fy) (C13.2 b o' nb eb)
    · have hr1 : r = 1 := by
        rcases (show r = 0 ∨ r = 1 by omega) with h | h
        · rw [due0 h] at he
          cases he
        · exact h
      rw [due1 hr1] at he
      cases he
      subst hr1
      have C14 := C13.sm s14
      intro xd G15 hxd hd s15
      have C15 := C14.sm s15
      refine ⟨true, T.exm_7_7, fun _ ea hea => ?_, fun z => Bool.noConfusion z⟩
      refine ⟨_, rfl, rfl, _, rfl, ifT ?_⟩
      refine ⟨_, rfl, rfl, rfl, xd, _, _, rfl, hd, rfl, _, rfl, rfl, rfl, xd, _, _, rfl, hd, rfl, by show 2 ≤ sizeLine; decide, fun r2 hr2 => ?_⟩
      have z16 := same_upd (o := .tup [.str "parts", .int (-1)]) hr2
      refine ⟨_, rfl, by show 2 ≤ sizeLine; decide, fun r3 hr3 => ?_⟩
      have z17 := same_upd (o := .tup [.str "parts", .int (-1)]) hr3
      refine ⟨.tuple [.str "parts", .int (-1)], .tuple [.str "parts", .int (-1)], .tup (.of (z17 _ _ upd_same)) (.cons (.str _) (.cons (.int _) .nil)), .tup (.of upd_same) (.cons (.str _) (.cons (.int _) .nil)), by decide +kernel, by decide +kernel, ?_⟩
      rw [show PyData.eqv (.tuple [.str "parts", .int (-1)]) (.tuple [.str "parts", .int (-1)]) = true by decide +kernel]
      exact q _ ((C15.sm z16).sm z17)
end
theorem later1 {B : Hp → Prop} {C : Hp → Prop} {G : Prop} (f : (∀ H, C H → B H) → G) (b : ∀ H, C H → B H) : G := f b
theorem iteIB {i j : Int} {A B : Prop} (h2 : i ≠ j → B) (h1 : i = j → A) : if decide (V.int i = V.int j) = true then A else B := ite_eqI h1 h2
theorem DctAt.chs {H H' : Hp} {t p : Addr} {kvs : List (Key × V)} (h : DctAt H t kvs) (hP : Cell H p) (c : Chs p H H') : DctAt H' t kvs := by
  obtain ⟨ks, e, pm⟩ := h
  exact ⟨ks, c.at (cell_ne hP e (by intro _ z; cases z)) e, pm⟩
theorem sch_chs0 {C q p : Addr} {H H' : Hp} {ts : List (Str × Int)} {ks : List KeyE} {ss : List SvE} {m n : Nat} (h : SchAt C q H ts ks ss m n) (hP : Cell H p) (c : Chs p H H') : SchAt C q H' ts ks ss m n := by
  obtain ⟨dx, d1, d2, d3, O⟩ := h
  have tp : ∀ b xs, H b = some (.tup xs) → H' b = some (.tup xs) := fun b xs e => c.at (cell_ne hP e (by intro _ z; cases z)) e
  exact ⟨dx, d1, d2, d3, c.at (cell_ne hP O.ob (by intro _ z; cases z)) O.ob, O.tb.chs hP c, O.ky.chs hP c, O.sv.chs hP c, O.hT, O.hK.mono tp, O.hS.mono tp, O.m5, O.n8⟩
theorem fault_low {ts : List (Str × Int)} {w : Int} {d : PyData} : Low (faultD ts w d) := by
  have h : ∀ s ∈ (["form", "head", "table", "terms", "unsafe", ""] : List Str), Low s := by
    have h : ((["form", "head", "table", "terms", "unsafe", ""] : List Str).all fun s => s.cps.toList.all fun c => decide (c < 128)) = true := by decide +kernel
    intro u hu c hc
    exact of_decide_eq_true (List.all_eq_true.mp (List.all_eq_true.mp h u hu) c hc)
  unfold faultD
  split
  · exact h _ (by simp)
  split
  · exact h _ (by simp)
  split
  · exact h _ (by simp)
  split
  · exact h _ (by simp)
  split
  · exact h _ (by simp)
  · exact h _ (by simp)
theorem due_low {ts : List (Str × Int)} {wd pd : PyData} {s : Str} {i : Int} (h : dueD ts wd pd = some (s, i)) : Low s := by
  have hw : ∀ s ∈ (["width", "parts"] : List Str), Low s := by
    have h : ((["width", "parts"] : List Str).all fun s => s.cps.toList.all fun c => decide (c < 128)) = true := by decide +kernel
    intro u hu c hc
    exact of_decide_eq_true (List.all_eq_true.mp (List.all_eq_true.mp h u hu) c hc)
  have ff : ∀ {ds : List PyData} {w : Int} {k : Nat} {z : Str × Nat}, firstD ts w ds k = some z → Low z.1 := by
    intro ds
    induction ds with
    | nil => intro w k z h; cases h
    | cons d r ih =>
      intro w k z h
      unfold firstD at h
      split at h
      · exact ih h
      · cases h
        exact fault_low
  unfold dueD at h
  split at h
  · cases h
    exact hw _ (by simp)
  · split at h
    · split at h
      · obtain ⟨z, e, hz⟩ := Option.map_eq_some_iff.mp h
        cases hz
        exact ff e
      · cases h
        exact hw _ (by simp)
    · cases h
      exact hw _ (by simp)
def spLaw (K : PySem.W.Frag) : Sp := fun vs H Q _ => ∃ (p : Addr) (ns : List Int), vs = [.ref p] ∧ SqL K H p (ns.map V.int) ∧ ns.length ≤ 63 ∧ ∀ H', Q (.bl true) H'
section
variable {P : Program} {w : World} {K : PySem.W.Frag} {mg : Str → Option Value} {base : Heap} {a : Nat → Addr} {d : Nat → FuncData}
theorem ok_law (T : Txt K mg a d) : FnOk P w K mg base CX0 10 (a 77) (d 77) ["_law_script"] (spLaw K) := by
  have G58 : FnOk P w K mg base CX0 1 (a 58) (d 58) ["_law_script", "_law_k"] (spState K) := ok_state T
  have G59 : FnOk P w K mg base CX0 1 (a 59) (d 59) ["_law_state_here", "_law_many_here"] spPick2 := ok_pick2 T
  have G62 : FnOk P w K mg base CX0 3 (a 62) (d 62) ["_law_state_here"] spTables2 := ok_tables2 T
  have G64 : FnOk P w K mg base CX0 5 (a 64) (d 64) ["_law_state_here", "_law_tables_here", "_law_width"] spPart := ok_part T
  have G75 : FnOk P w K mg base CX0 4 (a 75) (d 75) ["_law_state_here", "_law_tables_here", "_law_width", "_law_parts", "_law_changes"] spSpoil2 := ok_spoil2 T
  have G73 : FnOk P w K mg base CX0 1 (a 73) (d 73) ["_law_parts"] spCopy := ok_copy T
  have G69 : FnOk P w K mg base CX0 4 (a 69) (d 69) ["_law_tables_here", "_law_width", "_law_parts"] spDue := ok_due T
  have G74 : FnOk P w K mg base CX0 9 (a 74) (d 74) ["_law_state_here"] spMany := ok_many T
  have G76 : FnOk P w K mg base CX0 4 (a 76) (d 76) ["_law_question", "_law_schema", "_law_width", "_law_parts"] (spBack (a 42) (a 56)) := ok_back T
  have G5200 : FnOk P w K mg base CX0 5 (a 5200) (d 5200) ["self", "tables", "keys", "services"] (spSInit (a 42)) := ok_sinit T
  have G6600 : FnOk P w K mg base (L2.CX P w) 7 (a 6600) (d 6600) ["self", "schema", "width", "parts"] (spQInit (a 42) (a 56) (a 7)) := ok_qinit T
  refine T.F77.ok sc_law (fun vs H Q E h => ?_) (fun cdv A outer s H vs Q E hr h => ?_)
  · obtain ⟨p, ns, rfl, _⟩ := h
    rfl
  · obtain ⟨sp, ns, rfl, hS0, hl0, q⟩ := h
    refine ⟨_, (pss_cons (ps_set (i := 1) sc_law.nd rfl (.inl rfl) (pe_call G58 (hr.mono (by decide)) (by rfl) T.g58 T.F58.kp T.b58 .nil pass0 (pa_cons (pv 0) (pa_cons pe_int pa_nil))))
  (pss_cons (ps_set (i := 2) sc_law.nd rfl (.inl rfl) (pe_call G59 (hr.mono (by decide)) (by rfl) T.g59 T.F59.kp T.b59 .nil pass0 (pa_cons (pv 1) (pa_cons pe_int pa_nil))))
  (pss_cons (ps_set (i := 3) sc_law.nd rfl (.inl rfl) (pe_call G59 (hr.mono (by decide)) (by rfl) T.g59 T.F59.kp T.b59 .nil pass0 (pa_cons (pv 1) (pa_cons pe_int pa_nil))))
  (pss_cons (ps_set (i := 4) sc_law.nd rfl (.inr rfl) (pe_call G62 (hr.mono (by decide)) (by rfl) T.g62 T.F62.kp T.b62 .nil pass0 (pa_cons (pv 1) pa_nil)))
  (pss_cons (ps_set (i := 5) sc_law.nd rfl (.inr rfl) (pe_call G59 (hr.mono (by decide)) (by rfl) T.g59 T.F59.kp T.b59 .nil pass0 (pa_cons (pv 1) (pa_cons pe_int pa_nil))))
  (pss_cons (ps_setLc (i := 6) (own := [("_law_k", 14)]) rfl sc_law.nd rfl rfl (sw_true rfl rfl rfl (by decide +kernel)) (pi_range1 (by rfl) T.z_range (pa_cons (pe_call G59 (hr.mono (by decide)) (by rfl) T.g59 T.F59.kp T.b59 .nil pass0 (pa_cons (pv 1) (pa_cons pe_int pa_nil))) pa_nil)) (blkOk_by (N := ["_law_script", "_law_state_here", "_law_changes", "_law_odd", "_law_tables_here", "_law_width", "_law_parts", "_law_schema", "_law_kept", "_law_due_here", "_law_told", "_law_base", "_law_question", "e", "_law_k"]) (sc := defScope s_law) (by decide +kernel)) (fun _ _ _ _ _ => pg_name (i := 14) sc_law.nd rfl (.inl rfl)) (fun _ _ _ _ _ => pts_nil) (fun _ _ _ _ _ => (pe_call G64 (hr.mono (by decide)) (by rfl) T.g64 T.F64.kp T.b64 .nil pass0 (pa_cons (pe_call G58 (hr.mono (by decide)) (by rfl) T.g58 T.F58.kp T.b58 .nil pass0 (pa_cons (pv 0) (pa_cons (pe_op op_add (pv 14) pe_int) pa_nil))) (pa_cons (pv 4) (pa_cons (pv 5) pa_nil))))))
  (pss_cons (ps_expr (pe_call G75 (hr.mono (by decide)) (by rfl) T.g75 T.F75.kp T.b75 .nil pass0 (pa_cons (pv 1) (pa_cons (pv 4) (pa_cons (pv 5) (pa_cons (pv 6) (pa_cons (pv 2) pa_nil)))))))
  (Evl.pss_cut (ps_if (PW.pt (pw_and (pt_cmpR op_eq (pv 2) pe_int (nomark _)) (pw_and1 (pt_cmpR op_lt (pv 3) pe_int (nomark _)))))
    (pss_one (ps_set (i := 5) sc_law.nd rfl (.inr rfl) (pe_ix ix_list (pe_lst (pa_cons (pe_un un_neg pe_int) (pa_cons pe_int (pa_cons pe_bl (pa_cons pe_str (pa_cons pe_non pa_nil)))))) (pv 3) (fun _ _ => rfl))))
    pss_nil)
  (Evl.pss_cut (ps_if (PW.pt (pw_and (pt_cmpR op_eq (pv 2) pe_int (nomark _)) (pw_and1 (pt_chain op_lt op_lt pe_int (pv 3) pe_int))))
    (pss_one (ps_set (i := 6) sc_law.nd rfl (.inl rfl) (pe_ix ix_list (pe_lst (pa_cons (pe_callTy (T := "tuple")  call_tuple_of (by rfl) T.z_tuple (by decide +kernel) (pa_cons (pv 6) pa_nil)) (pa_cons pe_non (pa_cons pe_int pa_nil)))) (pe_op op_sub (pv 3) pe_int) (fun _ _ => rfl))))
    pss_nil)
  (pss_cons (ps_set (i := 7) sc_law.nd rfl (.inl rfl) (pe_make T.M_42 G5200 (hr.mono (by decide)) (by rfl) T.cg_42 T.b5200 .nil pass0 (pa_cons (pe_callTy (T := "dict")  call_dictD (by rfl) T.z_dict (by decide +kernel) (pa_cons (pv 4) pa_nil)) (pa_cons pe_dnewK (pa_cons (pe_disp (pps_cons pe_str (pe_tup (pa_cons (pe_ix ix_list (pe_callTy (T := "list")  (call_listD rfl) (by rfl) T.z_list (by decide +kernel) (pa_cons (pv 4) pa_nil)) pe_int (fun _ _ => rfl)) (pa_cons (pe_tup pa_nil) (pa_cons pe_non pa_nil)))) pps_nil) (by rfl) (by rfl) (fun z => by cases z) (by decide)) pa_nil)))))
  (pss_cons (ps_set (i := 8) sc_law.nd rfl (.inl rfl) (pe_call G73 (hr.mono (by decide)) (by rfl) T.g73 T.F73.kp T.b73 .nil pass0 (pa_cons (pv 6) pa_nil)))
  (pss_cons (ps_set (i := 9) sc_law.nd rfl (.inl rfl) (pe_call G69 (hr.mono (by decide)) (by rfl) T.g69 T.F69.kp T.b69 .nil pass0 (pa_cons (pv 4) (pa_cons (pv 5) (pa_cons (pv 6) pa_nil)))))
  (pss_cons (ps_set (i := 10) sc_law.nd rfl (.inl rfl) pe_non)
  (pss_cons (ps_set (i := 11) sc_law.nd rfl (.inl rfl) pe_bl)
  (pss_cons (ps_set (i := 12) sc_law.nd rfl (.inl rfl) pe_non)
  (pss_cons (ps_try_as (i := 13) (Wout := fun _ _ _ _ => False) rfl rfl sc_law.nd rfl rfl ⟨rfl, by decide, Or.inl T.cg_7⟩ takes0
    (fun W pn xe tk po => (pss_one (ps_set (i := 12) sc_law.nd rfl (.inl rfl) (pe_makeX T.M_56 G6600 (hr.mono (by decide)) (by rfl) T.cg_56 T.b6600 (fun σ => passAt tk σ) (pa_cons (pv 7) (pa_cons (pv 5) (pa_cons (pv 6) pa_nil)))))))
    (fun ea oe cls ed pn hz hf => (pss_cons (ps_set (i := 10) sc_law.nd rfl (.inl rfl) (pe_tup (pa_cons (pe_xf T.xf_7 T.no_7_part hz hf (pv 13)) (pa_cons (pe_xf T.xf_7 T.no_7_at hz hf (pv 13)) pa_nil))))
      (pss_one (ps_set (i := 11) sc_law.nd rfl (.inl rfl) (pe_and (pe_callB (id := "isinstance")  (call_isX T.xi_7 hz hf) (by rfl) T.z_isinstance (by decide +kernel) (pa_cons (pv 13) (pa_cons (pe_glob (v := .ref (a 2)) (by rfl) T.cg_2 rfl) pa_nil))) (pe_and (pe_not (pe_callB (id := "isinstance")  (call_isX T.xi_7 hz hf) (by rfl) T.z_isinstance (by decide +kernel) (pa_cons (pv 13) (pa_cons (pe_glob (v := .ref (a 5)) (by rfl) T.cg_5 rfl) pa_nil)))) (pe_one (pe_not (pe_callB (id := "isinstance") (r := rIsi K)  call_isi (by rfl) T.z_isinstance (by decide +kernel) (pa_cons (pe_xf T.xf_7 T.no_7_at hz hf (pv 13)) (pa_cons (pe_bltn (v := .ty "bool") (by rfl) T.z_bool (by decide +kernel) rfl) pa_nil))))))))))))
  (pss_cons (ps_if (PW.pt (pw_or (pt_cmpR (op_neD (hu_of64 hr)) (pv 6) (pv 8) (nomark _)) (pw_or1 (PW.pt (pw_and (pt_cmpR op_eq (pe_call G59 (hr.mono (by decide)) (by rfl) T.g59 T.F59.kp T.b59 .nil pass0 (pa_cons (pv 1) (pa_cons pe_int pa_nil))) pe_int (nomark _)) (pw_and1 (pt_not (pt_val (pe_call G74 (hr.mono (by decide)) (by rfl) T.g74 T.F74.kp T.b74 .nil pass0 (pa_cons (pv 1) pa_nil))))))))))
    (pss_one (ps_ret pe_bl))
    pss_nil)
  (pss_cons (ps_if (pt_cmpR op_notN (pv 9) pe_non (nomark _))
    (pss_one (ps_ret (pe_and (pe_cmpR (op_eqD (hu_of64 hr)) (pv 10) (pv 9) (nomark _)) (pe_one (pv 11)))))
    pss_nil)
  (pss_one (ps_ret (pe_and (pe_cmpR op_notN (pv 12) pe_non (nomark _)) (pe_one (pe_call G76 (hr.mono (by decide)) (by rfl) T.g76 T.F76.kp T.b76 .nil pass0 (pa_cons (pv 12) (pa_cons (pv 7) (pa_cons (pv 5) (pa_cons (pv 8) pa_nil))))))))))))))))))))))))))), ?_⟩
    refine ⟨_, rfl, sp, ns, 0, rfl, hS0, hl0, by decide, by decide, fun p H1 np hP1 s1 => ?_⟩
    have sO : ∀ {G G' : Hp}, Same H G → Chs p G G' → Same H G' := fun sg c b o e => c.2 b o (ne_of_none e np) (sg b o e)
    refine ⟨_, rfl, p, 3, rfl, hP1, by decide, by decide, fun ch H2 ch0 ch1 C2 => ?_⟩
    have s2 := sO s1 C2
    refine ⟨_, rfl, p, 12, rfl, C2.1, by decide, by decide, fun od H3 od0 od1 C3 => ?_⟩
    have s3 := sO s2 C3
    refine ⟨_, rfl, p, rfl, C3.1, fun t ts H4 ht0 ht hT t1 t3 C4 => ?_⟩
    have s4 := sO s3 C4
    refine ⟨_, rfl, p, 4, rfl, C4.1, by decide, by decide, fun wi H5 wi0 wi1 C5 => ?_⟩
    have s5 := sO s4 C5
    have ntp : t ≠ p := cell_ne C4.1 ht (by intro _ z; cases z)
    have ht5 := C5.at ntp ht
    obtain ⟨wn, rfl⟩ : ∃ wn : Nat, wi = (wn : Int) := ⟨wi.toNat, by omega⟩
    refine ⟨_, rfl, p, 6, rfl, C5.1, by decide, by decide, fun n H6 n0 n1 C6 => ⟨_, rfl, by omega, by omega, fun D hD => ?_⟩⟩
    have s6 := sO s5 C6
    have ht6 := C6.at ntp ht5
    have nD : D ≠ p := C6.1.ne hD
    have fD : H D = none := by
      cases e : H D with
      | none => rfl
      | some o => rw [s6 _ _ e] at hD; cases hD
    have ntD : t ≠ D := ne_of_none ht6 hD
    refine lc_range (lo := 0) (n := n.toNat) (fun i H' => ∃ (xs : List V) (ds : List PyData), H' D = some (.lst xs) ∧ xs.length = i ∧ Paired (DA (fun x => x = p ∨ x = D) H' 5) xs ds ∧ Cell H' p ∧ H' t = some (.dK (tabK ts)) ∧ Same H H')
      ⟨[], [], upd_same, rfl, .nil, C6.1.same (same_upd hD), by rw [upd_ne ntD]; exact ht6, s6.trans (same_upd hD)⟩ (fun i H' hi hp => ?_) (fun H7 hp => ?_)
    · obtain ⟨xs, ds, x1, x2, x3, x4, x5, x6⟩ := hp
      have hi6 : i < 6 := by omega
      refine ⟨rfl, ?_⟩
      refine ⟨_, rfl, _, rfl, _, _, rfl, rfl, sp, ns, _, rfl, x6.seq hS0, hl0, by omega, by omega, fun pk H8 hk hPk s8 => ?_⟩
      have npk : pk ≠ p := x4.ne hk
      have npD : pk ≠ D := (ne_of_none x1 hk).symm
      have occ : Occ (fun x => (x = p ∨ x = D) ∨ x = pk) H8 := fun x hx => by
        rcases hx with (rfl | rfl) | rfl
        · obtain ⟨i1, i2, e⟩ := x4.same s8
          exact ⟨_, e⟩
        · exact ⟨_, s8 _ _ x1⟩
        · obtain ⟨i1, i2, e⟩ := hPk
          exact ⟨_, e⟩
      refine ⟨_, rfl, _, rfl, (fun x => (x = p ∨ x = D) ∨ x = pk), pk, t, ts, wn, rfl, .inr rfl, hPk, occ, s8 _ _ x5, hT, t1, t3, by omega, fun v d H9 hv C9 => ?_⟩
      have s9 : Same H' H9 := fun b o e => C9.2 b o (ne_of_none e hk) (s8 _ _ e)
      have hv' := hv.weak (C' := fun x => x = p ∨ x = D) fun x hx => .inl hx
      have kp : ∀ x o', ¬ (x = p ∨ x = D) → H9 x = some o' → upd H9 D (.lst (xs ++ [v])) x = some o' := fun x o' hn e => by
        rw [upd_ne (fun e' => hn (.inr e'))]
        exact e
      refine ⟨_, s9 _ _ x1, small1000 (by omega), xs ++ [v], ds ++ [d], upd_same, by rw [List.length_append, x2]; rfl, paired_app (paired_imp (fun _ _ h => (DA.same h s9).keep kp) x3) (.cons (hv'.keep kp) .nil), ?_, ?_, fun b o e => ?_⟩
      · obtain ⟨i1, i2, e⟩ := x4
        exact ⟨i1, i2, by rw [upd_ne nD.symm]; exact s9 _ _ e⟩
      · rw [upd_ne ntD]
        exact s9 _ _ x5
      · rw [upd_ne (ne_of_none e fD)]
        exact s9 _ _ (x6 b o e)
    · obtain ⟨xs, ds, x1, x2, x3, x4, x5, x6⟩ := hp
      have occ : Occ (fun x => x = p ∨ x = D) H7 := fun x hx => by
        rcases hx with rfl | rfl
        · obtain ⟨i1, i2, e⟩ := x4
          exact ⟨_, e⟩
        · exact ⟨_, x1⟩
      have hT4 := hT.up (v := 4) (by decide)
      clear s1 s2 s3 s4 s5 s6 C2 C3 C4 C5 C6 ht0 ht ht5 ht6 sO hP1
      refine ⟨_, rfl, _, rfl, _, rfl, _, rfl, _, rfl, (fun x => x = p ∨ x = D), p, t, D, ts, _, wn, xs, ds, ch, rfl, .inl rfl, .inr rfl, nD.symm, x4, occ, x5, by omega, hT4, by omega, x1, x3, by omega, ch0, by omega, fun ys es H8 y1 y2 y3 y4 y5 => ?_⟩
      have ly10 : ys.length ≤ 10 := by omega
      have ht8 := y5 t _ ntp ntD x5
      have pr8 := paired_imp (fun _ _ h => DA.weak (C' := fun x => x = p) (fun x hx => .inl hx) h) y2
      have dl8 : DA (fun x => x = p) H8 6 (.ref D) (.list es) := .lst nD y1 (by omega) pr8
      clear y5 x1 x2 x3 x4 x5 x6 occ y2
      have hO8 : Occ (fun x => x = p) H8 := fun x hx => by
        obtain ⟨i1, i2, e⟩ := y4
        exact ⟨_, by rw [show x = p from hx]; exact e⟩
      -- an odd width
      refine ⟨fun σ H' => ∃ (xw : V) (wd : PyData), σ = [some (.ref sp), some (.ref p), some (.int ch), some (.int od), some (.ref t), some xw, some (.ref D), none, none, none, none, none, none, none, none] ∧ DA (fun x => x = p) H' 6 xw wd ∧ Same H8 H', ?_, ?_⟩
      · refine ⟨_, rfl, rfl, _, rfl, ite_eqI (fun c1 => ?_) (fun _ => ⟨_, _, rfl, Sc.da (.int wn), Same.refl _⟩)⟩
        refine ⟨_, rfl, _, _, rfl, rfl, _, rfl, ite_d (fun c2 => ?_) (fun _ => ⟨_, _, rfl, Sc.da (.int wn), Same.refl _⟩)⟩
        have c2 : od < 5 := c2
        refine ⟨_, rfl, by show 5 ≤ sizeLine; decide, fun L hL => ?_⟩
        have zL := same_upd (o := .lst [.int (-1), .int 13, .bl true, .str "1", .non]) hL
        obtain ⟨v, hv⟩ := at_some (xs := [V.int (-1), .int 13, .bl true, .str "1", .non]) od0 c2
        have low1 : ∀ c ∈ ("1" : Str).cps.toList, c < 128 := by decide +kernel
        have hm := atI_mem hv
        simp only [List.mem_cons, List.not_mem_nil, or_false] at hm
        have hd : ∃ dd, Sc v dd := by
          rcases hm with rfl | rfl | rfl | rfl | rfl
          · exact ⟨_, .int _⟩
          · exact ⟨_, .int _⟩
          · exact ⟨_, .bl _⟩
          · exact ⟨_, .str _ (by decide) low1⟩
          · exact ⟨_, .non⟩
        obtain ⟨dd, hd⟩ := hd
        exact ⟨_, rfl, _, _, _, _, rfl, rfl, .of upd_same, hv, v, dd, rfl, hd.da, zL⟩
      rintro σ H9 ⟨xw, wd, rfl, hxw, s9⟩
      -- odd parts
      refine ⟨fun σ H' => ∃ (xp : V) (pd : PyData), σ = [some (.ref sp), some (.ref p), some (.int ch), some (.int od), some (.ref t), some xw, some xp, none, none, none, none, none, none, none, none] ∧ DA (fun x => x = p) H' 6 xp pd ∧ Same H9 H', ?_, ?_⟩
      · have dl9 := dl8.same s9
        refine ⟨_, rfl, rfl, _, rfl, ite_eqI (fun c1 => ?_) (fun _ => ⟨_, _, rfl, dl9, Same.refl _⟩)⟩
        refine ⟨_, rfl, _, _, rfl, rfl, _, rfl, ite_d (fun c2 => ?_) (fun _ => ⟨_, rfl, _, _, rfl, dl9, Same.refl _⟩)⟩
        refine ⟨_, _, rfl, rfl, _, rfl, ite_d (fun c3 => ?_) (fun _ => ⟨_, _, rfl, dl9, Same.refl _⟩)⟩
        have c2 : 4 < od := c2
        have c3 : od < 8 := c3
        refine ⟨_, rfl, D, ys, rfl, .inl ⟨.of (s9 _ _ y1), fun u hu => ⟨by show 3 ≤ sizeLine; decide, fun L hL => ?_⟩⟩⟩
        have zu := same_upd (o := .tup ys) hu
        have zL := same_upd (o := .lst [.ref u, .non, .int 5]) hL
        have nup : u ≠ p := (y4.same s9).ne hu
        have i0 : (0 : Int) ≤ od - 5 := by omega
        obtain ⟨v, hv⟩ := at_some (xs := [V.ref u, .non, .int 5]) (z := od - 5) (by omega) (by show od - 5 < 3; omega)
        have hm := atI_mem hv
        simp only [List.mem_cons, List.not_mem_nil, or_false] at hm
        have s10 : Same H9 (upd (upd H9 u (.tup ys)) L (.lst [.ref u, .non, .int 5])) := zu.trans zL
        have hd : ∃ dd, DA (fun x => x = p) (upd (upd H9 u (.tup ys)) L (.lst [.ref u, .non, .int 5])) 6 v dd := by
          rcases hm with rfl | rfl | rfl
          · exact ⟨_, .tup nup (zL _ _ upd_same) (by omega) (paired_imp (fun _ _ h => DA.same h (s9.trans s10)) pr8)⟩
          · exact ⟨_, Sc.da .non⟩
          · exact ⟨_, Sc.da (.int 5)⟩
        obtain ⟨dd, hd⟩ := hd
        exact ⟨_, rfl, _, _, rfl, rfl, _, _, _, _, rfl, rfl, .of upd_same, hv, v, dd, rfl, hd, s10⟩
      rintro σ H10 ⟨xp, pd, rfl, hxp, s10⟩
      have hxw10 := hxw.same s10
      have s810 := s9.trans s10
      have ht10 := s810 _ _ ht8
      have hP10 := y4.same s810
      have hO10 := hO8.same s810
      clear pr8 dl8 y1 hO8 y4 hxw s9 s10 s810 ht8
      generalize hC : (fun x => x = p : Addr → Prop) = C at *
      have nC : ∀ x, x ≠ p → ¬ C x := fun x h e => by rw [← hC] at e; exact h e
      have hCp : C p := by rw [← hC]
      clear hC
      obtain ⟨b0, ts0, ets⟩ : ∃ b0 ts0, ts = b0 :: ts0 := by
        match ts, t1 with
        | b0 :: ts0, _ => exact ⟨b0, ts0, rfl⟩
      have hb0 : b0.1 ∈ ts.map (·.1) := by rw [ets]; simp
      have kn : (tabK ts).map (fun kv => kV kv.1) = (ts.map (·.1)).map V.str := by
        have h := keys_tab ts
        have : (tabK ts).map (fun kv => kV kv.1) = ((tabK ts).map (·.1)).map kV := by rw [List.map_map]; rfl
        rw [this, h, List.map_map]
        rfl
      have kat : atI ((ts.map (·.1)).map V.str) 0 = some (.str b0.1) := by rw [ets]; exact atI_nat (j := 0) rfl
      -- the schema
      refine ⟨_, rfl, t, _, rfl, .inl ht10, fun d1 f1 => ?_⟩
      have z1 := same_upd (o := .dK (tabK ts)) f1
      have e1 : upd H10 d1 (.dK (tabK ts)) d1 = some (.dK (tabK ts)) := upd_same
      generalize upd H10 d1 (.dK (tabK ts)) = G1 at z1 e1 ⊢
      intro d2 f2
      have z2 := same_upd (o := .dK []) f2
      have e2 : upd G1 d2 (.dK []) d2 = some (.dK []) := upd_same
      have e1 := z2 _ _ e1
      have s2 := z1.trans z2
      generalize upd G1 d2 (.dK []) = G2 at z2 e1 e2 s2 ⊢
      intro d3 f3
      have z3 := same_upd (o := .dK []) f3
      have n12 : d1 ≠ d3 ∧ d2 ≠ d3 := ⟨ne_of_none e1 f3, ne_of_none e2 f3⟩
      have e3 : upd G2 d3 (.dK []) d3 = some (.dK []) := upd_same
      have e1 := z3 _ _ e1
      have e2 := z3 _ _ e2
      generalize upd G2 d3 (.dK []) = G3 at z3 e1 e2 e3 ⊢
      refine ⟨_, rfl, t, _, rfl, .inl (z3 _ _ (s2 _ _ ht10)), fun L hL => ?_⟩
      rw [kn]
      have z4 := same_upd (o := .lst ((ts.map (·.1)).map V.str)) hL
      have e4 : upd G3 L (.lst ((ts.map (·.1)).map V.str)) L = some (.lst ((ts.map (·.1)).map V.str)) := upd_same
      have e1 := z4 _ _ e1
      have e2 := z4 _ _ e2
      have e3 := z4 _ _ e3
      generalize upd G3 L (.lst ((ts.map (·.1)).map V.str)) = G4 at z4 e1 e2 e3 e4 ⊢
      refine ⟨_, _, _, _, rfl, rfl, .of e4, kat, Nat.zero_le _, fun d5 f5 => ?_⟩
      have z5 := same_upd (o := .tup []) f5
      have e5 : upd G4 d5 (.tup []) d5 = some (.tup []) := upd_same
      have e1 := z5 _ _ e1
      have e2 := z5 _ _ e2
      have e3 := z5 _ _ e3
      generalize upd G4 d5 (.tup []) = G5 at z5 e1 e2 e3 e5 ⊢
      refine ⟨by show 3 ≤ sizeLine; decide, fun d6 f6 => ?_⟩
      have z6 := same_upd (o := .tup [.str b0.1, .ref d5, .non]) f6
      have e6 : upd G5 d6 (.tup [.str b0.1, .ref d5, .non]) d6 = some (.tup [.str b0.1, .ref d5, .non]) := upd_same
      have e1 := z6 _ _ e1
      have e2 := z6 _ _ e2
      have e3 := z6 _ _ e3
      have e5 := z6 _ _ e5
      generalize upd G5 d6 (.tup [.str b0.1, .ref d5, .non]) = G6 at z6 e1 e2 e3 e5 e6 ⊢
      refine ⟨e3, [(Sum.inr "z", .ref d6)], rfl, by show 1 ≤ 15; decide, ?_⟩
      have n7 : ∀ b o, b ≠ d3 → G6 b = some o → upd G6 d3 (.dK (mergeK [] [(Sum.inr "z", V.ref d6)])) b = some o := fun b o n e => by
        rw [upd_ne n]
        exact e
      have e7 : upd G6 d3 (.dK (mergeK [] [(Sum.inr "z", V.ref d6)])) d3 = some (.dK (svK [sv1 "z" d6 b0.1 d5])) := upd_same
      have z7 : Same G2 (upd G6 d3 (.dK (mergeK [] [(Sum.inr "z", V.ref d6)]))) := fun b o e => n7 b o (ne_of_none e f3) (z6 _ _ (z5 _ _ (z4 _ _ (z3 _ _ e))))
      have e1 := n7 _ _ n12.1 e1
      have e2 := n7 _ _ n12.2 e2
      have e5 := n7 _ _ (fun e => by rw [e, e3] at e5; cases e5) e5
      have e6 := n7 _ _ (fun e => by rw [e, e3] at e6; cases e6) e6
      generalize upd G6 d3 (.dK (mergeK [] [(Sum.inr "z", V.ref d6)])) = G7 at z7 e1 e2 e5 e6 e7 ⊢
      have s17 := s2.trans z7
      clear n7 z1 z2 z3 z4 z5 z6 z7 n12 f1 f2 f3 f5 f6 e4 hL s2 kat kn
      have wz : Wd "z" := ⟨by decide +kernel, by decide +kernel, by decide +kernel⟩
      refine fun x dx fx fdx ndx => mk_schema (.of e1) (.of (kvs := keyK []) e2) (.of e7) hT4 keys0 (svcs1 wz hb0 e6 e5) t1 (by omega) (by decide) (by decide) fx fdx ndx fun G8 hS s8 => ?_
      have s18 := s17.trans s8
      have hxp8 := hxp.same s18
      have hxw8 := hxw10.same s18
      have ht8 := s18 _ _ ht10
      have hP8 := hP10.same s18
      have hO8 := hO10.same s18
      clear e1 e2 e5 e6 e7 s17 s18 s8 hxp hxw10 ht10 hP10 hO10 fx fdx ndx ets hb0
      -- the copy
      refine ⟨_, rfl, C, 6, xp, pd, rfl, hO8, hxp8, fun xk G9 hk9 s9 => ?_⟩
      refine ⟨_, rfl, _, rfl, _, rfl, C, 6, t, ts, _, xw, xp, wd, pd, rfl, by decide, s9 _ _ ht8, by omega, hT4, hxw8.same s9, hxp8.same s9, fun u G10 hu s10 => ?_⟩
      have s910 := s9.trans s10
      have hxp10 := hxp8.same s910
      have hxw10 := hxw8.same s910
      have hk10 := hk9.same s10
      have hS10 := hS.same s910
      have hP10 := hP8.same s910
      have hO10 := hO8.same s910
      clear hxp8 hxw8 hk9 hS hP8 hO8 ht8 s9 s10 s910
      refine ⟨_, rfl, _, rfl, _, rfl, fun y dy fy fdy ndy => ?_⟩
      have z13 : Same G10 (upd (upd G10 dy (.own y)) y (.ins (a 56) dy [])) := (same_upd fdy).trans (same_upd (by rw [upd_ne ndy.symm]; exact fy))
      have hy13 : upd (upd G10 dy (.own y)) y (.ins (a 56) dy []) y = some (.ins (a 56) dy []) := upd_same
      generalize upd (upd G10 dy (.own y)) y (.ins (a 56) dy []) = G13 at z13 hy13 ⊢
      have ey : y ≠ p := hP10.ne fy
      refine ⟨C, 6, y, dy, x, ts, [], _, ts.length, 1, xw, xp, wd, pd, rfl, hy13, hO10.same z13, by decide, hS10.same z13, hxw10.same z13, hxp10.same z13, fun ds' hn e' l G14 hq hl o => ⟨rfl, ?_⟩, fun sx ix he G14 s14 => ?_⟩
      · obtain ⟨wi2, ds2, rfl, e2, hfo⟩ := due_none hn
        rw [e2] at e'
        cases e'
        subst e2
        have := hxw10.asInt
        subst this
        rw [hn] at hu
        have hu : u = .non := hu
        subst hu
        have s14 : Same G10 G14 := fun b o' e => o b o' (ne_of_none e fy) (z13 _ _ e)
        have hform : ∀ z ∈ ds', ∃ hs as, z = .tuple [.tuple hs, .list as] := fun z hz => by
          obtain ⟨hs, as, e, _⟩ := form_data (hfo z hz)
          exact ⟨hs, as, e⟩
        have hxp14 := hxp10.same s14
        have hk14 := hk10.same s14
        refine ⟨_, rfl, _, rfl, .list ds', .list ds', hxp14.dp, hk14.dp, hxp14.shaped (by decide), hxp14.shaped (by decide), _, rfl, ?_⟩
        rw [hxp14.refl]
        refine ifF ?_
        apply later1 (C := fun G => Chs p G14 G)
        case f =>
          intro els
          refine ⟨_, rfl, p, 8, rfl, hP10.same s14, by decide, by decide, fun r G15 r0 r1 C15 => ⟨rfl, _, rfl, iteIB (fun _ => els _ C15) (fun _ => ?_)⟩⟩
          exact ⟨_, rfl, p, rfl, C15.1, fun G16 C16 => ⟨_, rfl, ifF (els _ (C15.trans C16))⟩⟩
        case b =>
          intro G15 C15
          have hcp := hCp
          have hS15 : SchAt (a 42) x G15 ts [] _ ts.length 1 := sch_chs0 (hS10.same s14) (hP10.same s14) C15
          have hq15 := C15.at ey hq
          have hk15 := DA.chs hk14 C15 hcp
          have hl15 := DA.chs hl C15 hcp
          have hO15 := (hO10.same s14).chs C15
          refine ⟨_, rfl, rfl, _, rfl, ite_nd (fun h => absurd rfl h) (fun _ => ?_)⟩
          refine ⟨_, rfl, rfl, _, rfl, ?_⟩
          refine ifT ?_
          exact ⟨_, rfl, _, rfl, _, rfl, _, rfl, C, 6, y, x, ts, [], _, _, _, wi2, xk, ds', rfl, by decide, hO15, ⟨dy, l, hq15, hl15, hform⟩, hS15, hk15, fun G16 s16 => q G16⟩
      · have s14' := z13.trans s14
        intro xd G15 hxd hd s15
        have s15' := s14'.trans s15
        refine ⟨true, T.exm_7_7, fun _ ea hea => ?_, fun z => Bool.noConfusion z⟩
        refine ⟨_, rfl, rfl, rfl, xd, _, _, rfl, hd, rfl, _, rfl, rfl, rfl, xd, _, _, rfl, hd, rfl, by show 2 ≤ sizeLine; decide, fun r2 hr2 => ?_⟩
        have z16 := same_upd (o := .tup [.str sx, .int ix]) hr2
        have e16 : upd G15 r2 (.tup [.str sx, .int ix]) r2 = some (.tup [.str sx, .int ix]) := upd_same
        have hd16 := z16 _ _ hd
        have s16 := s15'.trans z16
        generalize upd G15 r2 (.tup [.str sx, .int ix]) = G16 at e16 hd16 s16 ⊢
        have kib : kitB "int" "bool" = some false := by decide +kernel
        refine ⟨_, rfl, xd, _, _, _, true, rfl, rfl, hd16, rfl, fun u hu => hu, T.kit_7_2, true, rfl, ifT ?_⟩
        refine ⟨_, rfl, xd, _, _, _, false, rfl, rfl, hd16, rfl, fun u hu => hu, T.kif_7_5, _, rfl, ?_⟩
        refine ⟨_, rfl, ifT ⟨_, rfl, rfl, rfl, xd, _, _, rfl, hd16, rfl, _, _, _, _, _, rfl, .ty _, .base (.int _), kit_ty kib, _, rfl, ?_⟩⟩
        have hxp16 := hxp10.same s16
        have hk16 := hk10.same s16
        refine ⟨_, rfl, _, rfl, pd, pd, hxp16.dp, hk16.dp, hxp16.shaped (by decide), hxp16.shaped (by decide), _, rfl, ?_⟩
        rw [hxp16.refl]
        refine ifF ?_
        rw [he] at hu
        obtain ⟨rr, rfl, hrr⟩ := hu
        apply later1 (C := fun G => Chs p G16 G)
        case f =>
          intro els
          refine ⟨_, rfl, p, 8, rfl, hP10.same s16, by decide, by decide, fun r G17 r0 r1 C17 => ⟨rfl, _, rfl, iteIB (fun _ => els _ C17) (fun _ => ?_)⟩⟩
          exact ⟨_, rfl, p, rfl, C17.1, fun G18 C18 => ⟨_, rfl, ifF (els _ (C17.trans C18))⟩⟩
        case b =>
          intro G17 C17
          have hP16 := hP10.same s16
          have nr2 : r2 ≠ p := cell_ne hP16 e16 (by intro _ z; cases z)
          have nrr : rr ≠ p := cell_ne hP16 (s16 _ _ hrr) (by intro _ z; cases z)
          have t1 := C17.at nr2 e16
          have t2 := C17.at nrr (s16 _ _ hrr)
          have lw := due_low he
          have cl : (PyData.tuple [.str sx, .int ix]).canLay0 = true := by
            simp only [PyData.canLay0, PyData.canLayAll0, low_ok lw, Bool.and_self]
          have shx : SeqAt.shaped (.tuple [.str sx, .int ix]) = true := by
            unfold SeqAt.shaped
            rw [cl, Bool.true_and]
            exact decide_eq_true (by simp only [PyData.depth, PyData.depthAll]; decide)
          refine ⟨_, rfl, rfl, _, rfl, ite_nd (fun _ => ?_) (fun h => nomatch h)⟩
          refine ⟨_, rfl, _, rfl, .tuple [.str sx, .int ix], .tuple [.str sx, .int ix], .tup (.of t1) (.cons (.str _) (.cons (.int _) .nil)), .tup (.of t2) (.cons (.str _) (.cons (.int _) .nil)), shx, shx, _, rfl, ?_⟩
          rw [PySem.SeqAt.eqv_refl _ cl]
          exact ifT ⟨_, rfl, q G17⟩
end
theorem len1 {P : List Value → Prop} (h : ∀ x0, P [x0]) : (us : List Value) → us.length = 1 → P us
  | [_], _ => h _
theorem len2 {P : List Value → Prop} (h : ∀ x0 x1, P [x0, x1]) : (us : List Value) → us.length = 2 → P us
  | [_, _], _ => h _ _
theorem len3 {P : List Value → Prop} (h : ∀ x0 x1 x2, P [x0, x1, x2]) : (us : List Value) → us.length = 3 → P us
  | [_, _, _], _ => h _ _ _
theorem len4 {P : List Value → Prop} (h : ∀ x0 x1 x2 x3, P [x0, x1, x2, x3]) : (us : List Value) → us.length = 4 → P us
  | [_, _, _, _], _ => h _ _ _ _
theorem len5 {P : List Value → Prop} (h : ∀ x0 x1 x2 x3 x4, P [x0, x1, x2, x3, x4]) : (us : List Value) → us.length = 5 → P us
  | [_, _, _, _, _], _ => h _ _ _ _ _
theorem all_mk {P : Program} {w : World} {K : PySem.W.Frag} {h : Heap} {mg : Str → Option Value} {fa : Addr} (X : K.In h) (G : h.Ns mainGlobals mg) (hfa : mg "law" = some (.ref fa))
    {f1700 : Addr} {od1700 an1700 : Option Addr} {sl1700 : Array (Option Value)} {oc1700 kV1700 dc1700 pm1700 cd1700 ct1700 : Value}
    {f11 : Addr} {od11 an11 : Option Addr} {sl11 : Array (Option Value)} {oc11 kV11 dc11 pm11 cd11 ct11 : Value}
    {f12 : Addr} {od12 an12 : Option Addr} {sl12 : Array (Option Value)} {oc12 kV12 dc12 pm12 cd12 ct12 : Value}
    {f13 : Addr} {od13 an13 : Option Addr} {sl13 : Array (Option Value)} {oc13 kV13 dc13 pm13 cd13 ct13 : Value}
    {f15 : Addr} {od15 an15 : Option Addr} {sl15 : Array (Option Value)} {oc15 kV15 dc15 pm15 cd15 ct15 : Value}
    {f16 : Addr} {od16 an16 : Option Addr} {sl16 : Array (Option Value)} {oc16 kV16 dc16 pm16 cd16 ct16 : Value}
    {f17 : Addr} {od17 an17 : Option Addr} {sl17 : Array (Option Value)} {oc17 kV17 dc17 pm17 cd17 ct17 : Value}
    {f18 : Addr} {od18 an18 : Option Addr} {sl18 : Array (Option Value)} {oc18 kV18 dc18 pm18 cd18 ct18 : Value}
    {f31 : Addr} {od31 an31 : Option Addr} {sl31 : Array (Option Value)} {oc31 kV31 dc31 pm31 cd31 ct31 : Value}
    {f32 : Addr} {od32 an32 : Option Addr} {sl32 : Array (Option Value)} {oc32 kV32 dc32 pm32 cd32 ct32 : Value}
    {f33 : Addr} {od33 an33 : Option Addr} {sl33 : Array (Option Value)} {oc33 kV33 dc33 pm33 cd33 ct33 : Value}
    {f34 : Addr} {od34 an34 : Option Addr} {sl34 : Array (Option Value)} {oc34 kV34 dc34 pm34 cd34 ct34 : Value}
    {f35 : Addr} {od35 an35 : Option Addr} {sl35 : Array (Option Value)} {oc35 kV35 dc35 pm35 cd35 ct35 : Value}
    {f36 : Addr} {od36 an36 : Option Addr} {sl36 : Array (Option Value)} {oc36 kV36 dc36 pm36 cd36 ct36 : Value}
    {f37 : Addr} {od37 an37 : Option Addr} {sl37 : Array (Option Value)} {oc37 kV37 dc37 pm37 cd37 ct37 : Value}
    {f38 : Addr} {od38 an38 : Option Addr} {sl38 : Array (Option Value)} {oc38 kV38 dc38 pm38 cd38 ct38 : Value}
    {f39 : Addr} {od39 an39 : Option Addr} {sl39 : Array (Option Value)} {oc39 kV39 dc39 pm39 cd39 ct39 : Value}
    {f40 : Addr} {od40 an40 : Option Addr} {sl40 : Array (Option Value)} {oc40 kV40 dc40 pm40 cd40 ct40 : Value}
    {f41 : Addr} {od41 an41 : Option Addr} {sl41 : Array (Option Value)} {oc41 kV41 dc41 pm41 cd41 ct41 : Value}
    {f5200 : Addr} {od5200 an5200 : Option Addr} {sl5200 : Array (Option Value)} {oc5200 kV5200 dc5200 pm5200 cd5200 ct5200 : Value}
    {f5201 : Addr} {od5201 an5201 : Option Addr} {sl5201 : Array (Option Value)} {oc5201 kV5201 dc5201 pm5201 cd5201 ct5201 : Value}
    {f5204 : Addr} {od5204 an5204 : Option Addr} {sl5204 : Array (Option Value)} {oc5204 kV5204 dc5204 pm5204 cd5204 ct5204 : Value}
    {f48 : Addr} {od48 an48 : Option Addr} {sl48 : Array (Option Value)} {oc48 kV48 dc48 pm48 cd48 ct48 : Value}
    {f49 : Addr} {od49 an49 : Option Addr} {sl49 : Array (Option Value)} {oc49 kV49 dc49 pm49 cd49 ct49 : Value}
    {f50 : Addr} {od50 an50 : Option Addr} {sl50 : Array (Option Value)} {oc50 kV50 dc50 pm50 cd50 ct50 : Value}
    {f51 : Addr} {od51 an51 : Option Addr} {sl51 : Array (Option Value)} {oc51 kV51 dc51 pm51 cd51 ct51 : Value}
    {f52 : Addr} {od52 an52 : Option Addr} {sl52 : Array (Option Value)} {oc52 kV52 dc52 pm52 cd52 ct52 : Value}
    {f6600 : Addr} {od6600 an6600 : Option Addr} {sl6600 : Array (Option Value)} {oc6600 kV6600 dc6600 pm6600 cd6600 ct6600 : Value}
    {f6601 : Addr} {od6601 an6601 : Option Addr} {sl6601 : Array (Option Value)} {oc6601 kV6601 dc6601 pm6601 cd6601 ct6601 : Value}
    {f58 : Addr} {od58 an58 : Option Addr} {sl58 : Array (Option Value)} {oc58 kV58 dc58 pm58 cd58 ct58 : Value}
    {f59 : Addr} {od59 an59 : Option Addr} {sl59 : Array (Option Value)} {oc59 kV59 dc59 pm59 cd59 ct59 : Value}
    {f60 : Addr} {od60 an60 : Option Addr} {sl60 : Array (Option Value)} {oc60 kV60 dc60 pm60 cd60 ct60 : Value}
    {f61 : Addr} {od61 an61 : Option Addr} {sl61 : Array (Option Value)} {oc61 kV61 dc61 pm61 cd61 ct61 : Value}
    {f62 : Addr} {od62 an62 : Option Addr} {sl62 : Array (Option Value)} {oc62 kV62 dc62 pm62 cd62 ct62 : Value}
    {f63 : Addr} {od63 an63 : Option Addr} {sl63 : Array (Option Value)} {oc63 kV63 dc63 pm63 cd63 ct63 : Value}
    {f64 : Addr} {od64 an64 : Option Addr} {sl64 : Array (Option Value)} {oc64 kV64 dc64 pm64 cd64 ct64 : Value}
    {f65 : Addr} {od65 an65 : Option Addr} {sl65 : Array (Option Value)} {oc65 kV65 dc65 pm65 cd65 ct65 : Value}
    {f66 : Addr} {od66 an66 : Option Addr} {sl66 : Array (Option Value)} {oc66 kV66 dc66 pm66 cd66 ct66 : Value}
    {f67 : Addr} {od67 an67 : Option Addr} {sl67 : Array (Option Value)} {oc67 kV67 dc67 pm67 cd67 ct67 : Value}
    {f68 : Addr} {od68 an68 : Option Addr} {sl68 : Array (Option Value)} {oc68 kV68 dc68 pm68 cd68 ct68 : Value}
    {f69 : Addr} {od69 an69 : Option Addr} {sl69 : Array (Option Value)} {oc69 kV69 dc69 pm69 cd69 ct69 : Value}
    {f70 : Addr} {od70 an70 : Option Addr} {sl70 : Array (Option Value)} {oc70 kV70 dc70 pm70 cd70 ct70 : Value}
    {f71 : Addr} {od71 an71 : Option Addr} {sl71 : Array (Option Value)} {oc71 kV71 dc71 pm71 cd71 ct71 : Value}
    {f72 : Addr} {od72 an72 : Option Addr} {sl72 : Array (Option Value)} {oc72 kV72 dc72 pm72 cd72 ct72 : Value}
    {f73 : Addr} {od73 an73 : Option Addr} {sl73 : Array (Option Value)} {oc73 kV73 dc73 pm73 cd73 ct73 : Value}
    {f74 : Addr} {od74 an74 : Option Addr} {sl74 : Array (Option Value)} {oc74 kV74 dc74 pm74 cd74 ct74 : Value}
    {f75 : Addr} {od75 an75 : Option Addr} {sl75 : Array (Option Value)} {oc75 kV75 dc75 pm75 cd75 ct75 : Value}
    {f76 : Addr} {od76 an76 : Option Addr} {sl76 : Array (Option Value)} {oc76 kV76 dc76 pm76 cd76 ct76 : Value}
    {f77 : Addr} {od77 an77 : Option Addr} {sl77 : Array (Option Value)} {oc77 kV77 dc77 pm77 cd77 ct77 : Value}
    {f2 : Addr}
    {nm_2 qn_2 : Str} {N_2 : Addr} {bs_2 : List Value} {sn_2 : List Str} {sub_2 : List Value} {ab_2 : Bool} {col_2 : Option Bool} {dd_2 : Option Addr} {m0_2 m1_2 m2_2 m3_2 m5_2 : Option Value}
    {f5 : Addr}
    {nm_5 qn_5 : Str} {N_5 : Addr} {bs_5 : List Value} {sn_5 : List Str} {sub_5 : List Value} {ab_5 : Bool} {col_5 : Option Bool} {dd_5 : Option Addr} {m0_5 m1_5 m2_5 m3_5 m5_5 : Option Value}
    {f7 : Addr}
    {nm_7 qn_7 : Str} {N_7 : Addr} {bs_7 : List Value} {sn_7 : List Str} {sub_7 : List Value} {ab_7 : Bool} {col_7 : Option Bool} {dd_7 : Option Addr} {m0_7 m1_7 m2_7 m3_7 m5_7 : Option Value}
    {f42 : Addr}
    {f56 : Addr}
    {f55201 : Addr} {rest5201 : List Value}
    (ac_2 : PySem.W.nsIn K mainGlobals "CappedError" = some (some (.ref f2)))
    (ac_5 : PySem.W.nsIn K mainGlobals "LimitExceeded" = some (some (.ref f5)))
    (ac_7 : PySem.W.nsIn K mainGlobals "InvalidQuestion" = some (some (.ref f7)))
    (ac_42 : PySem.W.nsIn K mainGlobals "Schema" = some (some (.ref f42)))
    (ac_56 : PySem.W.nsIn K mainGlobals "Question" = some (some (.ref f56)))
    (fi_7 : PySem.W.findIn K (.ref f7) "__init__" = some (some (.ref f1700)))
    (fi_42 : PySem.W.findIn K (.ref f42) "__init__" = some (some (.ref f5200)))
    (fi_56 : PySem.W.findIn K (.ref f56) "__init__" = some (some (.ref f6600)))
    (ma_5204 : PySem.W.findIn K (.ref f42) "__eq__" = some (some (.ref f5204)))
    (ma_6601 : PySem.W.findIn K (.ref f56) "part_list" = some (some (.ref f6601)))
    (pa_5201 : PySem.W.findIn K (.ref f42) "tables" = some (some (.ref f55201)))
    (pd_5201 : PySem.W.recIn K f55201 "property" = some (.ref f5201 :: rest5201))
    (l1700 : K.lookup f1700 = some ⟨oc1700, od1700, .func (PySem.W.fnOf "__init__" "InvalidQuestion.__init__" (defArgs s_InvalidQuestion___init__) (defBody s_InvalidQuestion___init__) (defScope s_InvalidQuestion___init__) .none kV1700 dc1700 pm1700 an1700 cd1700 ct1700), sl1700⟩) (c1700 : PySem.W.codeIn K cd1700 "InvalidQuestion.__init__" = true) (k1700 : PySem.W.keepIn K (.ref f1700) = true)
    (a11 : PySem.W.nsIn K mainGlobals "is_plain_int" = some (some (.ref f11))) (l11 : K.lookup f11 = some ⟨oc11, od11, .func (PySem.W.fnOf "is_plain_int" "is_plain_int" (defArgs s_is_plain_int) (defBody s_is_plain_int) (defScope s_is_plain_int) .none kV11 dc11 pm11 an11 cd11 ct11), sl11⟩) (c11 : PySem.W.codeIn K cd11 "is_plain_int" = true) (k11 : PySem.W.keepIn K (.ref f11) = true)
    (a12 : PySem.W.nsIn K mainGlobals "is_word" = some (some (.ref f12))) (l12 : K.lookup f12 = some ⟨oc12, od12, .func (PySem.W.fnOf "is_word" "is_word" (defArgs s_is_word) (defBody s_is_word) (defScope s_is_word) .none kV12 dc12 pm12 an12 cd12 ct12), sl12⟩) (c12 : PySem.W.codeIn K cd12 "is_word" = true) (k12 : PySem.W.keepIn K (.ref f12) = true)
    (a13 : PySem.W.nsIn K mainGlobals "is_value" = some (some (.ref f13))) (l13 : K.lookup f13 = some ⟨oc13, od13, .func (PySem.W.fnOf "is_value" "is_value" (defArgs s_is_value) (defBody s_is_value) (defScope s_is_value) .none kV13 dc13 pm13 an13 cd13 ct13), sl13⟩) (c13 : PySem.W.codeIn K cd13 "is_value" = true) (k13 : PySem.W.keepIn K (.ref f13) = true)
    (a15 : PySem.W.nsIn K mainGlobals "is_variable" = some (some (.ref f15))) (l15 : K.lookup f15 = some ⟨oc15, od15, .func (PySem.W.fnOf "is_variable" "is_variable" (defArgs s_is_variable) (defBody s_is_variable) (defScope s_is_variable) .none kV15 dc15 pm15 an15 cd15 ct15), sl15⟩) (c15 : PySem.W.codeIn K cd15 "is_variable" = true) (k15 : PySem.W.keepIn K (.ref f15) = true)
    (a16 : PySem.W.nsIn K mainGlobals "is_term" = some (some (.ref f16))) (l16 : K.lookup f16 = some ⟨oc16, od16, .func (PySem.W.fnOf "is_term" "is_term" (defArgs s_is_term) (defBody s_is_term) (defScope s_is_term) .none kV16 dc16 pm16 an16 cd16 ct16), sl16⟩) (c16 : PySem.W.codeIn K cd16 "is_term" = true) (k16 : PySem.W.keepIn K (.ref f16) = true)
    (a17 : PySem.W.nsIn K mainGlobals "term_variables" = some (some (.ref f17))) (l17 : K.lookup f17 = some ⟨oc17, od17, .func (PySem.W.fnOf "term_variables" "term_variables" (defArgs s_term_variables) (defBody s_term_variables) (defScope s_term_variables) .none kV17 dc17 pm17 an17 cd17 ct17), sl17⟩) (c17 : PySem.W.codeIn K cd17 "term_variables" = true) (k17 : PySem.W.keepIn K (.ref f17) = true)
    (a18 : PySem.W.nsIn K mainGlobals "atom_variables" = some (some (.ref f18))) (l18 : K.lookup f18 = some ⟨oc18, od18, .func (PySem.W.fnOf "atom_variables" "atom_variables" (defArgs s_atom_variables) (defBody s_atom_variables) (defScope s_atom_variables) .none kV18 dc18 pm18 an18 cd18 ct18), sl18⟩) (c18 : PySem.W.codeIn K cd18 "atom_variables" = true) (k18 : PySem.W.keepIn K (.ref f18) = true)
    (a31 : PySem.W.nsIn K mainGlobals "_is_count" = some (some (.ref f31))) (l31 : K.lookup f31 = some ⟨oc31, od31, .func (PySem.W.fnOf "_is_count" "_is_count" (defArgs s__is_count) (defBody s__is_count) (defScope s__is_count) .none kV31 dc31 pm31 an31 cd31 ct31), sl31⟩) (c31 : PySem.W.codeIn K cd31 "_is_count" = true) (k31 : PySem.W.keepIn K (.ref f31) = true)
    (a32 : PySem.W.nsIn K mainGlobals "_is_name_in" = some (some (.ref f32))) (l32 : K.lookup f32 = some ⟨oc32, od32, .func (PySem.W.fnOf "_is_name_in" "_is_name_in" (defArgs s__is_name_in) (defBody s__is_name_in) (defScope s__is_name_in) .none kV32 dc32 pm32 an32 cd32 ct32), sl32⟩) (c32 : PySem.W.codeIn K cd32 "_is_name_in" = true) (k32 : PySem.W.keepIn K (.ref f32) = true)
    (a33 : PySem.W.nsIn K mainGlobals "_are_columns" = some (some (.ref f33))) (l33 : K.lookup f33 = some ⟨oc33, od33, .func (PySem.W.fnOf "_are_columns" "_are_columns" (defArgs s__are_columns) (defBody s__are_columns) (defScope s__are_columns) .none kV33 dc33 pm33 an33 cd33 ct33), sl33⟩) (c33 : PySem.W.codeIn K cd33 "_are_columns" = true) (k33 : PySem.W.keepIn K (.ref f33) = true)
    (a34 : PySem.W.nsIn K mainGlobals "_is_key" = some (some (.ref f34))) (l34 : K.lookup f34 = some ⟨oc34, od34, .func (PySem.W.fnOf "_is_key" "_is_key" (defArgs s__is_key) (defBody s__is_key) (defScope s__is_key) .none kV34 dc34 pm34 an34 cd34 ct34), sl34⟩) (c34 : PySem.W.codeIn K cd34 "_is_key" = true) (k34 : PySem.W.keepIn K (.ref f34) = true)
    (a35 : PySem.W.nsIn K mainGlobals "_is_service" = some (some (.ref f35))) (l35 : K.lookup f35 = some ⟨oc35, od35, .func (PySem.W.fnOf "_is_service" "_is_service" (defArgs s__is_service) (defBody s__is_service) (defScope s__is_service) .none kV35 dc35 pm35 an35 cd35 ct35), sl35⟩) (c35 : PySem.W.codeIn K cd35 "_is_service" = true) (k35 : PySem.W.keepIn K (.ref f35) = true)
    (a36 : PySem.W.nsIn K mainGlobals "_is_whole_service" = some (some (.ref f36))) (l36 : K.lookup f36 = some ⟨oc36, od36, .func (PySem.W.fnOf "_is_whole_service" "_is_whole_service" (defArgs s__is_whole_service) (defBody s__is_whole_service) (defScope s__is_whole_service) .none kV36 dc36 pm36 an36 cd36 ct36), sl36⟩) (c36 : PySem.W.codeIn K cd36 "_is_whole_service" = true) (k36 : PySem.W.keepIn K (.ref f36) = true)
    (a37 : PySem.W.nsIn K mainGlobals "_check_tables" = some (some (.ref f37))) (l37 : K.lookup f37 = some ⟨oc37, od37, .func (PySem.W.fnOf "_check_tables" "_check_tables" (defArgs s__check_tables) (defBody s__check_tables) (defScope s__check_tables) .none kV37 dc37 pm37 an37 cd37 ct37), sl37⟩) (c37 : PySem.W.codeIn K cd37 "_check_tables" = true) (k37 : PySem.W.keepIn K (.ref f37) = true)
    (a38 : PySem.W.nsIn K mainGlobals "_check_keys" = some (some (.ref f38))) (l38 : K.lookup f38 = some ⟨oc38, od38, .func (PySem.W.fnOf "_check_keys" "_check_keys" (defArgs s__check_keys) (defBody s__check_keys) (defScope s__check_keys) .none kV38 dc38 pm38 an38 cd38 ct38), sl38⟩) (c38 : PySem.W.codeIn K cd38 "_check_keys" = true) (k38 : PySem.W.keepIn K (.ref f38) = true)
    (a39 : PySem.W.nsIn K mainGlobals "_check_services" = some (some (.ref f39))) (l39 : K.lookup f39 = some ⟨oc39, od39, .func (PySem.W.fnOf "_check_services" "_check_services" (defArgs s__check_services) (defBody s__check_services) (defScope s__check_services) .none kV39 dc39 pm39 an39 cd39 ct39), sl39⟩) (c39 : PySem.W.codeIn K cd39 "_check_services" = true) (k39 : PySem.W.keepIn K (.ref f39) = true)
    (a40 : PySem.W.nsIn K mainGlobals "_check_capped" = some (some (.ref f40))) (l40 : K.lookup f40 = some ⟨oc40, od40, .func (PySem.W.fnOf "_check_capped" "_check_capped" (defArgs s__check_capped) (defBody s__check_capped) (defScope s__check_capped) .none kV40 dc40 pm40 an40 cd40 ct40), sl40⟩) (c40 : PySem.W.codeIn K cd40 "_check_capped" = true) (k40 : PySem.W.keepIn K (.ref f40) = true)
    (a41 : PySem.W.nsIn K mainGlobals "_copied" = some (some (.ref f41))) (l41 : K.lookup f41 = some ⟨oc41, od41, .func (PySem.W.fnOf "_copied" "_copied" (defArgs s__copied) (defBody s__copied) (defScope s__copied) .none kV41 dc41 pm41 an41 cd41 ct41), sl41⟩) (c41 : PySem.W.codeIn K cd41 "_copied" = true) (k41 : PySem.W.keepIn K (.ref f41) = true)
    (l5200 : K.lookup f5200 = some ⟨oc5200, od5200, .func (PySem.W.fnOf "__init__" "Schema.__init__" (defArgs s_Schema___init__) (defBody s_Schema___init__) (defScope s_Schema___init__) .none kV5200 dc5200 pm5200 an5200 cd5200 ct5200), sl5200⟩) (c5200 : PySem.W.codeIn K cd5200 "Schema.__init__" = true) (k5200 : PySem.W.keepIn K (.ref f5200) = true)
    (l5201 : K.lookup f5201 = some ⟨oc5201, od5201, .func (PySem.W.fnOf "tables" "Schema.tables" (defArgs s_Schema_tables) (defBody s_Schema_tables) (defScope s_Schema_tables) .none kV5201 dc5201 pm5201 an5201 cd5201 ct5201), sl5201⟩) (c5201 : PySem.W.codeIn K cd5201 "Schema.tables" = true) (k5201 : PySem.W.keepIn K (.ref f5201) = true)
    (l5204 : K.lookup f5204 = some ⟨oc5204, od5204, .func (PySem.W.fnOf "__eq__" "Schema.__eq__" (defArgs s_Schema___eq__) (defBody s_Schema___eq__) (defScope s_Schema___eq__) .none kV5204 dc5204 pm5204 an5204 cd5204 ct5204), sl5204⟩) (c5204 : PySem.W.codeIn K cd5204 "Schema.__eq__" = true) (k5204 : PySem.W.keepIn K (.ref f5204) = true)
    (a48 : PySem.W.nsIn K mainGlobals "_is_atom" = some (some (.ref f48))) (l48 : K.lookup f48 = some ⟨oc48, od48, .func (PySem.W.fnOf "_is_atom" "_is_atom" (defArgs s__is_atom) (defBody s__is_atom) (defScope s__is_atom) .none kV48 dc48 pm48 an48 cd48 ct48), sl48⟩) (c48 : PySem.W.codeIn K cd48 "_is_atom" = true) (k48 : PySem.W.keepIn K (.ref f48) = true)
    (a49 : PySem.W.nsIn K mainGlobals "_has_form" = some (some (.ref f49))) (l49 : K.lookup f49 = some ⟨oc49, od49, .func (PySem.W.fnOf "_has_form" "_has_form" (defArgs s__has_form) (defBody s__has_form) (defScope s__has_form) .none kV49 dc49 pm49 an49 cd49 ct49), sl49⟩) (c49 : PySem.W.codeIn K cd49 "_has_form" = true) (k49 : PySem.W.keepIn K (.ref f49) = true)
    (a50 : PySem.W.nsIn K mainGlobals "_are_terms" = some (some (.ref f50))) (l50 : K.lookup f50 = some ⟨oc50, od50, .func (PySem.W.fnOf "_are_terms" "_are_terms" (defArgs s__are_terms) (defBody s__are_terms) (defScope s__are_terms) .none kV50 dc50 pm50 an50 cd50 ct50), sl50⟩) (c50 : PySem.W.codeIn K cd50 "_are_terms" = true) (k50 : PySem.W.keepIn K (.ref f50) = true)
    (a51 : PySem.W.nsIn K mainGlobals "_wrong_part" = some (some (.ref f51))) (l51 : K.lookup f51 = some ⟨oc51, od51, .func (PySem.W.fnOf "_wrong_part" "_wrong_part" (defArgs s__wrong_part) (defBody s__wrong_part) (defScope s__wrong_part) .none kV51 dc51 pm51 an51 cd51 ct51), sl51⟩) (c51 : PySem.W.codeIn K cd51 "_wrong_part" = true) (k51 : PySem.W.keepIn K (.ref f51) = true)
    (a52 : PySem.W.nsIn K mainGlobals "_check_question" = some (some (.ref f52))) (l52 : K.lookup f52 = some ⟨oc52, od52, .func (PySem.W.fnOf "_check_question" "_check_question" (defArgs s__check_question) (defBody s__check_question) (defScope s__check_question) .none kV52 dc52 pm52 an52 cd52 ct52), sl52⟩) (c52 : PySem.W.codeIn K cd52 "_check_question" = true) (k52 : PySem.W.keepIn K (.ref f52) = true)
    (l6600 : K.lookup f6600 = some ⟨oc6600, od6600, .func (PySem.W.fnOf "__init__" "Question.__init__" (defArgs s_Question___init__) (defBody s_Question___init__) (defScope s_Question___init__) .none kV6600 dc6600 pm6600 an6600 cd6600 ct6600), sl6600⟩) (c6600 : PySem.W.codeIn K cd6600 "Question.__init__" = true) (k6600 : PySem.W.keepIn K (.ref f6600) = true)
    (l6601 : K.lookup f6601 = some ⟨oc6601, od6601, .func (PySem.W.fnOf "part_list" "Question.part_list" (defArgs s_Question_part_list) (defBody s_Question_part_list) (defScope s_Question_part_list) .none kV6601 dc6601 pm6601 an6601 cd6601 ct6601), sl6601⟩) (c6601 : PySem.W.codeIn K cd6601 "Question.part_list" = true) (k6601 : PySem.W.keepIn K (.ref f6601) = true)
    (a58 : PySem.W.nsIn K mainGlobals "_law_state" = some (some (.ref f58))) (l58 : K.lookup f58 = some ⟨oc58, od58, .func (PySem.W.fnOf "_law_state" "_law_state" (defArgs s__law_state) (defBody s__law_state) (defScope s__law_state) .none kV58 dc58 pm58 an58 cd58 ct58), sl58⟩) (c58 : PySem.W.codeIn K cd58 "_law_state" = true) (k58 : PySem.W.keepIn K (.ref f58) = true)
    (a59 : PySem.W.nsIn K mainGlobals "_law_pick" = some (some (.ref f59))) (l59 : K.lookup f59 = some ⟨oc59, od59, .func (PySem.W.fnOf "_law_pick" "_law_pick" (defArgs s__law_pick) (defBody s__law_pick) (defScope s__law_pick) .none kV59 dc59 pm59 an59 cd59 ct59), sl59⟩) (c59 : PySem.W.codeIn K cd59 "_law_pick" = true) (k59 : PySem.W.keepIn K (.ref f59) = true)
    (a60 : PySem.W.nsIn K mainGlobals "_law_word" = some (some (.ref f60))) (l60 : K.lookup f60 = some ⟨oc60, od60, .func (PySem.W.fnOf "_law_word" "_law_word" (defArgs s__law_word) (defBody s__law_word) (defScope s__law_word) .none kV60 dc60 pm60 an60 cd60 ct60), sl60⟩) (c60 : PySem.W.codeIn K cd60 "_law_word" = true) (k60 : PySem.W.keepIn K (.ref f60) = true)
    (a61 : PySem.W.nsIn K mainGlobals "_law_value" = some (some (.ref f61))) (l61 : K.lookup f61 = some ⟨oc61, od61, .func (PySem.W.fnOf "_law_value" "_law_value" (defArgs s__law_value) (defBody s__law_value) (defScope s__law_value) .none kV61 dc61 pm61 an61 cd61 ct61), sl61⟩) (c61 : PySem.W.codeIn K cd61 "_law_value" = true) (k61 : PySem.W.keepIn K (.ref f61) = true)
    (a62 : PySem.W.nsIn K mainGlobals "_law_tables" = some (some (.ref f62))) (l62 : K.lookup f62 = some ⟨oc62, od62, .func (PySem.W.fnOf "_law_tables" "_law_tables" (defArgs s__law_tables) (defBody s__law_tables) (defScope s__law_tables) .none kV62 dc62 pm62 an62 cd62 ct62), sl62⟩) (c62 : PySem.W.codeIn K cd62 "_law_tables" = true) (k62 : PySem.W.keepIn K (.ref f62) = true)
    (a63 : PySem.W.nsIn K mainGlobals "_law_term" = some (some (.ref f63))) (l63 : K.lookup f63 = some ⟨oc63, od63, .func (PySem.W.fnOf "_law_term" "_law_term" (defArgs s__law_term) (defBody s__law_term) (defScope s__law_term) .none kV63 dc63 pm63 an63 cd63 ct63), sl63⟩) (c63 : PySem.W.codeIn K cd63 "_law_term" = true) (k63 : PySem.W.keepIn K (.ref f63) = true)
    (a64 : PySem.W.nsIn K mainGlobals "_law_part" = some (some (.ref f64))) (l64 : K.lookup f64 = some ⟨oc64, od64, .func (PySem.W.fnOf "_law_part" "_law_part" (defArgs s__law_part) (defBody s__law_part) (defScope s__law_part) .none kV64 dc64 pm64 an64 cd64 ct64), sl64⟩) (c64 : PySem.W.codeIn K cd64 "_law_part" = true) (k64 : PySem.W.keepIn K (.ref f64) = true)
    (a65 : PySem.W.nsIn K mainGlobals "_law_is_value" = some (some (.ref f65))) (l65 : K.lookup f65 = some ⟨oc65, od65, .func (PySem.W.fnOf "_law_is_value" "_law_is_value" (defArgs s__law_is_value) (defBody s__law_is_value) (defScope s__law_is_value) .none kV65 dc65 pm65 an65 cd65 ct65), sl65⟩) (c65 : PySem.W.codeIn K cd65 "_law_is_value" = true) (k65 : PySem.W.keepIn K (.ref f65) = true)
    (a66 : PySem.W.nsIn K mainGlobals "_law_is_term" = some (some (.ref f66))) (l66 : K.lookup f66 = some ⟨oc66, od66, .func (PySem.W.fnOf "_law_is_term" "_law_is_term" (defArgs s__law_is_term) (defBody s__law_is_term) (defScope s__law_is_term) .none kV66 dc66 pm66 an66 cd66 ct66), sl66⟩) (c66 : PySem.W.codeIn K cd66 "_law_is_term" = true) (k66 : PySem.W.keepIn K (.ref f66) = true)
    (a67 : PySem.W.nsIn K mainGlobals "_law_bad_atoms" = some (some (.ref f67))) (l67 : K.lookup f67 = some ⟨oc67, od67, .func (PySem.W.fnOf "_law_bad_atoms" "_law_bad_atoms" (defArgs s__law_bad_atoms) (defBody s__law_bad_atoms) (defScope s__law_bad_atoms) .none kV67 dc67 pm67 an67 cd67 ct67), sl67⟩) (c67 : PySem.W.codeIn K cd67 "_law_bad_atoms" = true) (k67 : PySem.W.keepIn K (.ref f67) = true)
    (a68 : PySem.W.nsIn K mainGlobals "_law_fault" = some (some (.ref f68))) (l68 : K.lookup f68 = some ⟨oc68, od68, .func (PySem.W.fnOf "_law_fault" "_law_fault" (defArgs s__law_fault) (defBody s__law_fault) (defScope s__law_fault) .none kV68 dc68 pm68 an68 cd68 ct68), sl68⟩) (c68 : PySem.W.codeIn K cd68 "_law_fault" = true) (k68 : PySem.W.keepIn K (.ref f68) = true)
    (a69 : PySem.W.nsIn K mainGlobals "_law_due" = some (some (.ref f69))) (l69 : K.lookup f69 = some ⟨oc69, od69, .func (PySem.W.fnOf "_law_due" "_law_due" (defArgs s__law_due) (defBody s__law_due) (defScope s__law_due) .none kV69 dc69 pm69 an69 cd69 ct69), sl69⟩) (c69 : PySem.W.codeIn K cd69 "_law_due" = true) (k69 : PySem.W.keepIn K (.ref f69) = true)
    (a70 : PySem.W.nsIn K mainGlobals "_law_bad_term" = some (some (.ref f70))) (l70 : K.lookup f70 = some ⟨oc70, od70, .func (PySem.W.fnOf "_law_bad_term" "_law_bad_term" (defArgs s__law_bad_term) (defBody s__law_bad_term) (defScope s__law_bad_term) .none kV70 dc70 pm70 an70 cd70 ct70), sl70⟩) (c70 : PySem.W.codeIn K cd70 "_law_bad_term" = true) (k70 : PySem.W.keepIn K (.ref f70) = true)
    (a71 : PySem.W.nsIn K mainGlobals "_law_put" = some (some (.ref f71))) (l71 : K.lookup f71 = some ⟨oc71, od71, .func (PySem.W.fnOf "_law_put" "_law_put" (defArgs s__law_put) (defBody s__law_put) (defScope s__law_put) .none kV71 dc71 pm71 an71 cd71 ct71), sl71⟩) (c71 : PySem.W.codeIn K cd71 "_law_put" = true) (k71 : PySem.W.keepIn K (.ref f71) = true)
    (a72 : PySem.W.nsIn K mainGlobals "_law_bad_part" = some (some (.ref f72))) (l72 : K.lookup f72 = some ⟨oc72, od72, .func (PySem.W.fnOf "_law_bad_part" "_law_bad_part" (defArgs s__law_bad_part) (defBody s__law_bad_part) (defScope s__law_bad_part) .none kV72 dc72 pm72 an72 cd72 ct72), sl72⟩) (c72 : PySem.W.codeIn K cd72 "_law_bad_part" = true) (k72 : PySem.W.keepIn K (.ref f72) = true)
    (a73 : PySem.W.nsIn K mainGlobals "_law_copy" = some (some (.ref f73))) (l73 : K.lookup f73 = some ⟨oc73, od73, .func (PySem.W.fnOf "_law_copy" "_law_copy" (defArgs s__law_copy) (defBody s__law_copy) (defScope s__law_copy) .none kV73 dc73 pm73 an73 cd73 ct73), sl73⟩) (c73 : PySem.W.codeIn K cd73 "_law_copy" = true) (k73 : PySem.W.keepIn K (.ref f73) = true)
    (a74 : PySem.W.nsIn K mainGlobals "_law_many" = some (some (.ref f74))) (l74 : K.lookup f74 = some ⟨oc74, od74, .func (PySem.W.fnOf "_law_many" "_law_many" (defArgs s__law_many) (defBody s__law_many) (defScope s__law_many) .none kV74 dc74 pm74 an74 cd74 ct74), sl74⟩) (c74 : PySem.W.codeIn K cd74 "_law_many" = true) (k74 : PySem.W.keepIn K (.ref f74) = true)
    (a75 : PySem.W.nsIn K mainGlobals "_law_spoil" = some (some (.ref f75))) (l75 : K.lookup f75 = some ⟨oc75, od75, .func (PySem.W.fnOf "_law_spoil" "_law_spoil" (defArgs s__law_spoil) (defBody s__law_spoil) (defScope s__law_spoil) .none kV75 dc75 pm75 an75 cd75 ct75), sl75⟩) (c75 : PySem.W.codeIn K cd75 "_law_spoil" = true) (k75 : PySem.W.keepIn K (.ref f75) = true)
    (a76 : PySem.W.nsIn K mainGlobals "_law_back" = some (some (.ref f76))) (l76 : K.lookup f76 = some ⟨oc76, od76, .func (PySem.W.fnOf "_law_back" "_law_back" (defArgs s__law_back) (defBody s__law_back) (defScope s__law_back) .none kV76 dc76 pm76 an76 cd76 ct76), sl76⟩) (c76 : PySem.W.codeIn K cd76 "_law_back" = true) (k76 : PySem.W.keepIn K (.ref f76) = true)
    (a77 : PySem.W.nsIn K mainGlobals "law" = some (some (.ref f77))) (l77 : K.lookup f77 = some ⟨oc77, od77, .func (PySem.W.fnOf "law" "law" (defArgs s_law) (defBody s_law) (defScope s_law) .none kV77 dc77 pm77 an77 cd77 ct77), sl77⟩) (c77 : PySem.W.codeIn K cd77 "law" = true) (k77 : PySem.W.keepIn K (.ref f77) = true)
    (xl_2 : K.lookup f2 = some (excClassObj nm_2 qn_2 f2 N_2 bs_2 [.type "ValueError", .type "Exception", .type "BaseException", .type "object"] true sn_2 sub_2 ab_2 col_2 dd_2 m0_2 m1_2 m2_2 m3_2 m5_2 "ValueError.__new__"))
    (xs_2 : PySem.W.findIn K (.ref f2) "__setattr__" = some (some (.builtin "object.__setattr__")))
    (xe_2 : PySem.W.subIn K (.ref f2) (.type "BaseException") = some true)
    (xt_2 : PySem.W.typeIn K (.ref f2) = some (.type "type"))
    (xk_2 : PySem.W.keepIn K (.ref f2) = true)
    (ya_2 : PySem.W.findIn K (.ref f2) "__getattribute__" = some (some (.builtin "BaseException.__getattribute__")))
    (yg_2 : PySem.W.findIn K (.ref f2) "__getattr__" = some none)
    (yh_2 : PySem.W.hasDictIn K f2 = true)
    (za_2 : PySem.W.findIn K (.ref f2) "__class__" = some (some (.builtin "object.__class__")))
    (zn_2 : PySem.W.specialIn K (.builtin "object.__class__") "__get__" = some (some (.builtin "getset_descriptor.__get__")))
    (zt_2 : PySem.W.takesIn K (.builtin "object.__class__") = some true)
    (zm_2 : PySem.W.mroIn K f2 (.type "object") = some true)
    (xl_5 : K.lookup f5 = some (excClassObj nm_5 qn_5 f5 N_5 bs_5 [.ref f2, .type "ValueError", .type "Exception", .type "BaseException", .type "object"] true sn_5 sub_5 ab_5 col_5 dd_5 m0_5 m1_5 m2_5 m3_5 m5_5 "ValueError.__new__"))
    (xs_5 : PySem.W.findIn K (.ref f5) "__setattr__" = some (some (.builtin "object.__setattr__")))
    (xe_5 : PySem.W.subIn K (.ref f5) (.type "BaseException") = some true)
    (xt_5 : PySem.W.typeIn K (.ref f5) = some (.type "type"))
    (xk_5 : PySem.W.keepIn K (.ref f5) = true)
    (ya_5 : PySem.W.findIn K (.ref f5) "__getattribute__" = some (some (.builtin "BaseException.__getattribute__")))
    (yg_5 : PySem.W.findIn K (.ref f5) "__getattr__" = some none)
    (yh_5 : PySem.W.hasDictIn K f5 = true)
    (za_5 : PySem.W.findIn K (.ref f5) "__class__" = some (some (.builtin "object.__class__")))
    (zn_5 : PySem.W.specialIn K (.builtin "object.__class__") "__get__" = some (some (.builtin "getset_descriptor.__get__")))
    (zt_5 : PySem.W.takesIn K (.builtin "object.__class__") = some true)
    (zm_5 : PySem.W.mroIn K f5 (.type "object") = some true)
    (na_5_limit : PySem.W.findIn K (.ref f5) "limit" = some none)
    (xl_7 : K.lookup f7 = some (excClassObj nm_7 qn_7 f7 N_7 bs_7 [.ref f2, .type "ValueError", .type "Exception", .type "BaseException", .type "object"] true sn_7 sub_7 ab_7 col_7 dd_7 m0_7 m1_7 m2_7 m3_7 m5_7 "ValueError.__new__"))
    (xs_7 : PySem.W.findIn K (.ref f7) "__setattr__" = some (some (.builtin "object.__setattr__")))
    (xe_7 : PySem.W.subIn K (.ref f7) (.type "BaseException") = some true)
    (xt_7 : PySem.W.typeIn K (.ref f7) = some (.type "type"))
    (xk_7 : PySem.W.keepIn K (.ref f7) = true)
    (ya_7 : PySem.W.findIn K (.ref f7) "__getattribute__" = some (some (.builtin "BaseException.__getattribute__")))
    (yg_7 : PySem.W.findIn K (.ref f7) "__getattr__" = some none)
    (yh_7 : PySem.W.hasDictIn K f7 = true)
    (za_7 : PySem.W.findIn K (.ref f7) "__class__" = some (some (.builtin "object.__class__")))
    (zn_7 : PySem.W.specialIn K (.builtin "object.__class__") "__get__" = some (some (.builtin "getset_descriptor.__get__")))
    (zt_7 : PySem.W.takesIn K (.builtin "object.__class__") = some true)
    (zm_7 : PySem.W.mroIn K f7 (.type "object") = some true)
    (ty_7 : PySem.W.typeIn K (.ref f1700) = some (.type "function"))
    (na_7_part : PySem.W.findIn K (.ref f7) "part" = some none)
    (na_7_at : PySem.W.findIn K (.ref f7) "at" = some none)
    (pg_42 : PySem.W.plainGet K f42 Str.empty = true)
    (hd_42 : PySem.W.hasDictIn K f42 = true)
    (po_42 : PySem.W.plainOver K f42 = true)
    (sa_42 : PySem.W.findIn K (.ref f42) "__setattr__" = some (some (.builtin "object.__setattr__")))
    (mk_42 : PySem.W.makesIn K f42 = true)
    (is_5200 : PySem.W.isFn K (.ref f5200) = true)
    (kc_42 : PySem.W.keepIn K (.ref f42) = true)
    (na_42__tables : PySem.W.findIn K (.ref f42) "_tables" = some none)
    (na_42__keys : PySem.W.findIn K (.ref f42) "_keys" = some none)
    (na_42__services : PySem.W.findIn K (.ref f42) "_services" = some none)
    (pg_56 : PySem.W.plainGet K f56 Str.empty = true)
    (hd_56 : PySem.W.hasDictIn K f56 = true)
    (po_56 : PySem.W.plainOver K f56 = true)
    (sa_56 : PySem.W.findIn K (.ref f56) "__setattr__" = some (some (.builtin "object.__setattr__")))
    (mk_56 : PySem.W.makesIn K f56 = true)
    (is_6600 : PySem.W.isFn K (.ref f6600) = true)
    (kc_56 : PySem.W.keepIn K (.ref f56) = true)
    (na_56_schema : PySem.W.findIn K (.ref f56) "schema" = some none)
    (na_56_width : PySem.W.findIn K (.ref f56) "width" = some none)
    (na_56__parts : PySem.W.findIn K (.ref f56) "_parts" = some none)
    (oa_42 : PySem.W.findIn K (.ref f42) "__class__" = some (some (.builtin "object.__class__")))
    (on_42 : PySem.W.specialIn K (.builtin "object.__class__") "__get__" = some (some (.builtin "getset_descriptor.__get__")))
    (ot_42 : PySem.W.takesIn K (.builtin "object.__class__") = some true)
    (om_42 : PySem.W.mroIn K f42 (.type "object") = some true)
    (ne_42 : PySem.W.findIn K (.ref f42) "__ne__" = some (some (.builtin "object.__ne__")))
    (es_7_2 : PySem.W.subIn K (.ref f7) (.ref f2) = some true)
    (es_7_5 : PySem.W.kitOne K (.ref f7) (.ref f5) = some false)
    (es_7_7 : PySem.W.subIn K (.ref f7) (.ref f7) = some true)
    (pb_5201 : PySem.W.specialIn K (.ref f55201) "__get__" = some (some (.builtin "property.__get__")))
    (pc_5201 : PySem.W.takesIn K (.ref f55201) = some true)
    (mi_5204 : PySem.W.isFn K (.ref f5204) = true)
    (mi_6601 : PySem.W.isFn K (.ref f6601) = true)
    (z_abs : PySem.W.nsIn K mainGlobals "abs" = some none)
    (z_all : PySem.W.nsIn K mainGlobals "all" = some none)
    (z_bool : PySem.W.nsIn K mainGlobals "bool" = some none)
    (z_dict : PySem.W.nsIn K mainGlobals "dict" = some none)
    (z_enumerate : PySem.W.nsIn K mainGlobals "enumerate" = some none)
    (z_int : PySem.W.nsIn K mainGlobals "int" = some none)
    (z_isinstance : PySem.W.nsIn K mainGlobals "isinstance" = some none)
    (z_len : PySem.W.nsIn K mainGlobals "len" = some none)
    (z_list : PySem.W.nsIn K mainGlobals "list" = some none)
    (z_range : PySem.W.nsIn K mainGlobals "range" = some none)
    (z_sorted : PySem.W.nsIn K mainGlobals "sorted" = some none)
    (z_str : PySem.W.nsIn K mainGlobals "str" = some none)
    (z_tuple : PySem.W.nsIn K mainGlobals "tuple" = some none)
    {t_LONGEST_WORD : Tok} (v_LONGEST_WORD : PySem.W.nsIn K mainGlobals "LONGEST_WORD" = some (some (.int (8) t_LONGEST_WORD)))
    {t_GREATEST_VALUE : Tok} (v_GREATEST_VALUE : PySem.W.nsIn K mainGlobals "GREATEST_VALUE" = some (some (.int (999999999999999999999999999999) t_GREATEST_VALUE)))
    {t_MOST_TABLES : Tok} (v_MOST_TABLES : PySem.W.nsIn K mainGlobals "MOST_TABLES" = some (some (.int (5) t_MOST_TABLES)))
    {t_MOST_WIDTH_schemas : Tok} (v_MOST_WIDTH_schemas : PySem.W.nsIn K mainGlobals "MOST_WIDTH_schemas" = some (some (.int (4) t_MOST_WIDTH_schemas)))
    {t_MOST_SERVICES : Tok} (v_MOST_SERVICES : PySem.W.nsIn K mainGlobals "MOST_SERVICES" = some (some (.int (8) t_MOST_SERVICES)))
    {t_MOST_CAP : Tok} (v_MOST_CAP : PySem.W.nsIn K mainGlobals "MOST_CAP" = some (some (.int (4) t_MOST_CAP)))
    {t_MOST_WIDTH_questions : Tok} (v_MOST_WIDTH_questions : PySem.W.nsIn K mainGlobals "MOST_WIDTH_questions" = some (some (.int (12) t_MOST_WIDTH_questions)))
    {t_MOST_PARTS : Tok} (v_MOST_PARTS : PySem.W.nsIn K mainGlobals "MOST_PARTS" = some (some (.int (4000) t_MOST_PARTS)))
    {t_MOST_ATOMS : Tok} (v_MOST_ATOMS : PySem.W.nsIn K mainGlobals "MOST_ATOMS" = some (some (.int (5) t_MOST_ATOMS)))
    : ∃ fd : FuncData, (∀ (s : Shared) (v : Value), BindsTo s fd ⟨[v], []⟩ [("_law_script", v)]) ∧ ∀ base : Heap, K.In base → base.Ns mainGlobals mg → FnOk P w K mg base CX0 10 fa fd ["_law_script"] (spLaw K) := by
  have e := hfa.symm.trans (PySem.W.mg_of X G a77)
  cases e
  have F1700 := fun_mk (st := s_InvalidQuestion___init__) l1700 c1700 k1700
  have b1700 := F1700.binds (ps := ["self", "part", "at"]) fun _ _ _ _ _ _ => len3 (fun _ _ _ => rfl)
  have F11 := fun_mk (st := s_is_plain_int) l11 c11 k11
  have b11 := F11.binds (ps := ["thing"]) fun _ _ _ _ _ _ => len1 (fun _ => rfl)
  have F12 := fun_mk (st := s_is_word) l12 c12 k12
  have b12 := F12.binds (ps := ["thing"]) fun _ _ _ _ _ _ => len1 (fun _ => rfl)
  have F13 := fun_mk (st := s_is_value) l13 c13 k13
  have b13 := F13.binds (ps := ["thing"]) fun _ _ _ _ _ _ => len1 (fun _ => rfl)
  have F15 := fun_mk (st := s_is_variable) l15 c15 k15
  have b15 := F15.binds (ps := ["thing"]) fun _ _ _ _ _ _ => len1 (fun _ => rfl)
  have F16 := fun_mk (st := s_is_term) l16 c16 k16
  have b16 := F16.binds (ps := ["thing"]) fun _ _ _ _ _ _ => len1 (fun _ => rfl)
  have F17 := fun_mk (st := s_term_variables) l17 c17 k17
  have b17 := F17.binds (ps := ["terms"]) fun _ _ _ _ _ _ => len1 (fun _ => rfl)
  have F18 := fun_mk (st := s_atom_variables) l18 c18 k18
  have b18 := F18.binds (ps := ["atoms"]) fun _ _ _ _ _ _ => len1 (fun _ => rfl)
  have F31 := fun_mk (st := s__is_count) l31 c31 k31
  have b31 := F31.binds (ps := ["thing", "most"]) fun _ _ _ _ _ _ => len2 (fun _ _ => rfl)
  have F32 := fun_mk (st := s__is_name_in) l32 c32 k32
  have b32 := F32.binds (ps := ["thing", "names"]) fun _ _ _ _ _ _ => len2 (fun _ _ => rfl)
  have F33 := fun_mk (st := s__are_columns) l33 c33 k33
  have b33 := F33.binds (ps := ["thing", "width"]) fun _ _ _ _ _ _ => len2 (fun _ _ => rfl)
  have F34 := fun_mk (st := s__is_key) l34 c34 k34
  have b34 := F34.binds (ps := ["thing", "width"]) fun _ _ _ _ _ _ => len2 (fun _ _ => rfl)
  have F35 := fun_mk (st := s__is_service) l35 c35 k35
  have b35 := F35.binds (ps := ["thing", "tables"]) fun _ _ _ _ _ _ => len2 (fun _ _ => rfl)
  have F36 := fun_mk (st := s__is_whole_service) l36 c36 k36
  have b36 := F36.binds (ps := ["service", "tables", "keys"]) fun _ _ _ _ _ _ => len3 (fun _ _ _ => rfl)
  have F37 := fun_mk (st := s__check_tables) l37 c37 k37
  have b37 := F37.binds (ps := ["tables"]) fun _ _ _ _ _ _ => len1 (fun _ => rfl)
  have F38 := fun_mk (st := s__check_keys) l38 c38 k38
  have b38 := F38.binds (ps := ["keys", "tables"]) fun _ _ _ _ _ _ => len2 (fun _ _ => rfl)
  have F39 := fun_mk (st := s__check_services) l39 c39 k39
  have b39 := F39.binds (ps := ["services", "tables"]) fun _ _ _ _ _ _ => len2 (fun _ _ => rfl)
  have F40 := fun_mk (st := s__check_capped) l40 c40 k40
  have b40 := F40.binds (ps := ["services", "tables", "keys"]) fun _ _ _ _ _ _ => len3 (fun _ _ _ => rfl)
  have F41 := fun_mk (st := s__copied) l41 c41 k41
  have b41 := F41.binds (ps := ["things"]) fun _ _ _ _ _ _ => len1 (fun _ => rfl)
  have F5200 := fun_mk (st := s_Schema___init__) l5200 c5200 k5200
  have b5200 := F5200.binds (ps := ["self", "tables", "keys", "services"]) fun _ _ _ _ _ _ => len4 (fun _ _ _ _ => rfl)
  have F5201 := fun_mk (st := s_Schema_tables) l5201 c5201 k5201
  have b5201 := F5201.binds (ps := ["self"]) fun _ _ _ _ _ _ => len1 (fun _ => rfl)
  have F5204 := fun_mk (st := s_Schema___eq__) l5204 c5204 k5204
  have b5204 := F5204.binds (ps := ["self", "other"]) fun _ _ _ _ _ _ => len2 (fun _ _ => rfl)
  have F48 := fun_mk (st := s__is_atom) l48 c48 k48
  have b48 := F48.binds (ps := ["thing"]) fun _ _ _ _ _ _ => len1 (fun _ => rfl)
  have F49 := fun_mk (st := s__has_form) l49 c49 k49
  have b49 := F49.binds (ps := ["part"]) fun _ _ _ _ _ _ => len1 (fun _ => rfl)
  have F50 := fun_mk (st := s__are_terms) l50 c50 k50
  have b50 := F50.binds (ps := ["terms", "many"]) fun _ _ _ _ _ _ => len2 (fun _ _ => rfl)
  have F51 := fun_mk (st := s__wrong_part) l51 c51 k51
  have b51 := F51.binds (ps := ["tables", "width", "part"]) fun _ _ _ _ _ _ => len3 (fun _ _ _ => rfl)
  have F52 := fun_mk (st := s__check_question) l52 c52 k52
  have b52 := F52.binds (ps := ["schema", "width", "parts"]) fun _ _ _ _ _ _ => len3 (fun _ _ _ => rfl)
  have F6600 := fun_mk (st := s_Question___init__) l6600 c6600 k6600
  have b6600 := F6600.binds (ps := ["self", "schema", "width", "parts"]) fun _ _ _ _ _ _ => len4 (fun _ _ _ _ => rfl)
  have F6601 := fun_mk (st := s_Question_part_list) l6601 c6601 k6601
  have b6601 := F6601.binds (ps := ["self"]) fun _ _ _ _ _ _ => len1 (fun _ => rfl)
  have F58 := fun_mk (st := s__law_state) l58 c58 k58
  have b58 := F58.binds (ps := ["_law_script", "_law_k"]) fun _ _ _ _ _ _ => len2 (fun _ _ => rfl)
  have F59 := fun_mk (st := s__law_pick) l59 c59 k59
  have b59 := F59.binds (ps := ["_law_state_here", "_law_many_here"]) fun _ _ _ _ _ _ => len2 (fun _ _ => rfl)
  have F60 := fun_mk (st := s__law_word) l60 c60 k60
  have b60 := F60.binds (ps := ["_law_state_here"]) fun _ _ _ _ _ _ => len1 (fun _ => rfl)
  have F61 := fun_mk (st := s__law_value) l61 c61 k61
  have b61 := F61.binds (ps := ["_law_state_here"]) fun _ _ _ _ _ _ => len1 (fun _ => rfl)
  have F62 := fun_mk (st := s__law_tables) l62 c62 k62
  have b62 := F62.binds (ps := ["_law_state_here"]) fun _ _ _ _ _ _ => len1 (fun _ => rfl)
  have F63 := fun_mk (st := s__law_term) l63 c63 k63
  have b63 := F63.binds (ps := ["_law_state_here"]) fun _ _ _ _ _ _ => len1 (fun _ => rfl)
  have F64 := fun_mk (st := s__law_part) l64 c64 k64
  have b64 := F64.binds (ps := ["_law_state_here", "_law_tables_here", "_law_width"]) fun _ _ _ _ _ _ => len3 (fun _ _ _ => rfl)
  have F65 := fun_mk (st := s__law_is_value) l65 c65 k65
  have b65 := F65.binds (ps := ["_law_thing"]) fun _ _ _ _ _ _ => len1 (fun _ => rfl)
  have F66 := fun_mk (st := s__law_is_term) l66 c66 k66
  have b66 := F66.binds (ps := ["_law_thing"]) fun _ _ _ _ _ _ => len1 (fun _ => rfl)
  have F67 := fun_mk (st := s__law_bad_atoms) l67 c67 k67
  have b67 := F67.binds (ps := ["_law_atoms"]) fun _ _ _ _ _ _ => len1 (fun _ => rfl)
  have F68 := fun_mk (st := s__law_fault) l68 c68 k68
  have b68 := F68.binds (ps := ["_law_tables_here", "_law_width", "_law_part_here"]) fun _ _ _ _ _ _ => len3 (fun _ _ _ => rfl)
  have F69 := fun_mk (st := s__law_due) l69 c69 k69
  have b69 := F69.binds (ps := ["_law_tables_here", "_law_width", "_law_parts"]) fun _ _ _ _ _ _ => len3 (fun _ _ _ => rfl)
  have F70 := fun_mk (st := s__law_bad_term) l70 c70 k70
  have b70 := F70.binds (ps := ["_law_state_here"]) fun _ _ _ _ _ _ => len1 (fun _ => rfl)
  have F71 := fun_mk (st := s__law_put) l71 c71 k71
  have b71 := F71.binds (ps := ["_law_terms", "_law_at", "_law_term_here"]) fun _ _ _ _ _ _ => len3 (fun _ _ _ => rfl)
  have F72 := fun_mk (st := s__law_bad_part) l72 c72 k72
  have b72 := F72.binds (ps := ["_law_state_here", "_law_part_here"]) fun _ _ _ _ _ _ => len2 (fun _ _ => rfl)
  have F73 := fun_mk (st := s__law_copy) l73 c73 k73
  have b73 := F73.binds (ps := ["_law_parts"]) fun _ _ _ _ _ _ => len1 (fun _ => rfl)
  have F74 := fun_mk (st := s__law_many) l74 c74 k74
  have b74 := F74.binds (ps := ["_law_state_here"]) fun _ _ _ _ _ _ => len1 (fun _ => rfl)
  have F75 := fun_mk (st := s__law_spoil) l75 c75 k75
  have b75 := F75.binds (ps := ["_law_state_here", "_law_tables_here", "_law_width", "_law_parts", "_law_changes"]) fun _ _ _ _ _ _ => len5 (fun _ _ _ _ _ => rfl)
  have F76 := fun_mk (st := s__law_back) l76 c76 k76
  have b76 := F76.binds (ps := ["_law_question", "_law_schema", "_law_width", "_law_parts"]) fun _ _ _ _ _ _ => len4 (fun _ _ _ _ => rfl)
  have F77 := fun_mk (st := s_law) l77 c77 k77
  have b77 := F77.binds (ps := ["_law_script"]) fun _ _ _ _ _ _ => len1 (fun _ => rfl)
  let aa : Nat → Addr := fun i => match i with
    | 2 => f2
    | 5 => f5
    | 7 => f7
    | 11 => f11
    | 12 => f12
    | 13 => f13
    | 15 => f15
    | 16 => f16
    | 17 => f17
    | 18 => f18
    | 31 => f31
    | 32 => f32
    | 33 => f33
    | 34 => f34
    | 35 => f35
    | 36 => f36
    | 37 => f37
    | 38 => f38
    | 39 => f39
    | 40 => f40
    | 41 => f41
    | 42 => f42
    | 48 => f48
    | 49 => f49
    | 50 => f50
    | 51 => f51
    | 52 => f52
    | 56 => f56
    | 58 => f58
    | 59 => f59
    | 60 => f60
    | 61 => f61
    | 62 => f62
    | 63 => f63
    | 64 => f64
    | 65 => f65
    | 66 => f66
    | 67 => f67
    | 68 => f68
    | 69 => f69
    | 70 => f70
    | 71 => f71
    | 72 => f72
    | 73 => f73
    | 74 => f74
    | 75 => f75
    | 76 => f76
    | 77 => fa
    | 1700 => f1700
    | 5200 => f5200
    | 5201 => f5201
    | 5204 => f5204
    | 6600 => f6600
    | 6601 => f6601
    | 55201 => f55201
    | _ => 0
  let dd : Nat → FuncData := fun i => match i with
    | 11 => PySem.W.fnOf "is_plain_int" "is_plain_int" (defArgs s_is_plain_int) (defBody s_is_plain_int) (defScope s_is_plain_int) .none kV11 dc11 pm11 an11 cd11 ct11
    | 12 => PySem.W.fnOf "is_word" "is_word" (defArgs s_is_word) (defBody s_is_word) (defScope s_is_word) .none kV12 dc12 pm12 an12 cd12 ct12
    | 13 => PySem.W.fnOf "is_value" "is_value" (defArgs s_is_value) (defBody s_is_value) (defScope s_is_value) .none kV13 dc13 pm13 an13 cd13 ct13
    | 15 => PySem.W.fnOf "is_variable" "is_variable" (defArgs s_is_variable) (defBody s_is_variable) (defScope s_is_variable) .none kV15 dc15 pm15 an15 cd15 ct15
    | 16 => PySem.W.fnOf "is_term" "is_term" (defArgs s_is_term) (defBody s_is_term) (defScope s_is_term) .none kV16 dc16 pm16 an16 cd16 ct16
    | 17 => PySem.W.fnOf "term_variables" "term_variables" (defArgs s_term_variables) (defBody s_term_variables) (defScope s_term_variables) .none kV17 dc17 pm17 an17 cd17 ct17
    | 18 => PySem.W.fnOf "atom_variables" "atom_variables" (defArgs s_atom_variables) (defBody s_atom_variables) (defScope s_atom_variables) .none kV18 dc18 pm18 an18 cd18 ct18
    | 31 => PySem.W.fnOf "_is_count" "_is_count" (defArgs s__is_count) (defBody s__is_count) (defScope s__is_count) .none kV31 dc31 pm31 an31 cd31 ct31
    | 32 => PySem.W.fnOf "_is_name_in" "_is_name_in" (defArgs s__is_name_in) (defBody s__is_name_in) (defScope s__is_name_in) .none kV32 dc32 pm32 an32 cd32 ct32
    | 33 => PySem.W.fnOf "_are_columns" "_are_columns" (defArgs s__are_columns) (defBody s__are_columns) (defScope s__are_columns) .none kV33 dc33 pm33 an33 cd33 ct33
    | 34 => PySem.W.fnOf "_is_key" "_is_key" (defArgs s__is_key) (defBody s__is_key) (defScope s__is_key) .none kV34 dc34 pm34 an34 cd34 ct34
    | 35 => PySem.W.fnOf "_is_service" "_is_service" (defArgs s__is_service) (defBody s__is_service) (defScope s__is_service) .none kV35 dc35 pm35 an35 cd35 ct35
    | 36 => PySem.W.fnOf "_is_whole_service" "_is_whole_service" (defArgs s__is_whole_service) (defBody s__is_whole_service) (defScope s__is_whole_service) .none kV36 dc36 pm36 an36 cd36 ct36
    | 37 => PySem.W.fnOf "_check_tables" "_check_tables" (defArgs s__check_tables) (defBody s__check_tables) (defScope s__check_tables) .none kV37 dc37 pm37 an37 cd37 ct37
    | 38 => PySem.W.fnOf "_check_keys" "_check_keys" (defArgs s__check_keys) (defBody s__check_keys) (defScope s__check_keys) .none kV38 dc38 pm38 an38 cd38 ct38
    | 39 => PySem.W.fnOf "_check_services" "_check_services" (defArgs s__check_services) (defBody s__check_services) (defScope s__check_services) .none kV39 dc39 pm39 an39 cd39 ct39
    | 40 => PySem.W.fnOf "_check_capped" "_check_capped" (defArgs s__check_capped) (defBody s__check_capped) (defScope s__check_capped) .none kV40 dc40 pm40 an40 cd40 ct40
    | 41 => PySem.W.fnOf "_copied" "_copied" (defArgs s__copied) (defBody s__copied) (defScope s__copied) .none kV41 dc41 pm41 an41 cd41 ct41
    | 48 => PySem.W.fnOf "_is_atom" "_is_atom" (defArgs s__is_atom) (defBody s__is_atom) (defScope s__is_atom) .none kV48 dc48 pm48 an48 cd48 ct48
    | 49 => PySem.W.fnOf "_has_form" "_has_form" (defArgs s__has_form) (defBody s__has_form) (defScope s__has_form) .none kV49 dc49 pm49 an49 cd49 ct49
    | 50 => PySem.W.fnOf "_are_terms" "_are_terms" (defArgs s__are_terms) (defBody s__are_terms) (defScope s__are_terms) .none kV50 dc50 pm50 an50 cd50 ct50
    | 51 => PySem.W.fnOf "_wrong_part" "_wrong_part" (defArgs s__wrong_part) (defBody s__wrong_part) (defScope s__wrong_part) .none kV51 dc51 pm51 an51 cd51 ct51
    | 52 => PySem.W.fnOf "_check_question" "_check_question" (defArgs s__check_question) (defBody s__check_question) (defScope s__check_question) .none kV52 dc52 pm52 an52 cd52 ct52
    | 58 => PySem.W.fnOf "_law_state" "_law_state" (defArgs s__law_state) (defBody s__law_state) (defScope s__law_state) .none kV58 dc58 pm58 an58 cd58 ct58
    | 59 => PySem.W.fnOf "_law_pick" "_law_pick" (defArgs s__law_pick) (defBody s__law_pick) (defScope s__law_pick) .none kV59 dc59 pm59 an59 cd59 ct59
    | 60 => PySem.W.fnOf "_law_word" "_law_word" (defArgs s__law_word) (defBody s__law_word) (defScope s__law_word) .none kV60 dc60 pm60 an60 cd60 ct60
    | 61 => PySem.W.fnOf "_law_value" "_law_value" (defArgs s__law_value) (defBody s__law_value) (defScope s__law_value) .none kV61 dc61 pm61 an61 cd61 ct61
    | 62 => PySem.W.fnOf "_law_tables" "_law_tables" (defArgs s__law_tables) (defBody s__law_tables) (defScope s__law_tables) .none kV62 dc62 pm62 an62 cd62 ct62
    | 63 => PySem.W.fnOf "_law_term" "_law_term" (defArgs s__law_term) (defBody s__law_term) (defScope s__law_term) .none kV63 dc63 pm63 an63 cd63 ct63
    | 64 => PySem.W.fnOf "_law_part" "_law_part" (defArgs s__law_part) (defBody s__law_part) (defScope s__law_part) .none kV64 dc64 pm64 an64 cd64 ct64
    | 65 => PySem.W.fnOf "_law_is_value" "_law_is_value" (defArgs s__law_is_value) (defBody s__law_is_value) (defScope s__law_is_value) .none kV65 dc65 pm65 an65 cd65 ct65
    | 66 => PySem.W.fnOf "_law_is_term" "_law_is_term" (defArgs s__law_is_term) (defBody s__law_is_term) (defScope s__law_is_term) .none kV66 dc66 pm66 an66 cd66 ct66
    | 67 => PySem.W.fnOf "_law_bad_atoms" "_law_bad_atoms" (defArgs s__law_bad_atoms) (defBody s__law_bad_atoms) (defScope s__law_bad_atoms) .none kV67 dc67 pm67 an67 cd67 ct67
    | 68 => PySem.W.fnOf "_law_fault" "_law_fault" (defArgs s__law_fault) (defBody s__law_fault) (defScope s__law_fault) .none kV68 dc68 pm68 an68 cd68 ct68
    | 69 => PySem.W.fnOf "_law_due" "_law_due" (defArgs s__law_due) (defBody s__law_due) (defScope s__law_due) .none kV69 dc69 pm69 an69 cd69 ct69
    | 70 => PySem.W.fnOf "_law_bad_term" "_law_bad_term" (defArgs s__law_bad_term) (defBody s__law_bad_term) (defScope s__law_bad_term) .none kV70 dc70 pm70 an70 cd70 ct70
    | 71 => PySem.W.fnOf "_law_put" "_law_put" (defArgs s__law_put) (defBody s__law_put) (defScope s__law_put) .none kV71 dc71 pm71 an71 cd71 ct71
    | 72 => PySem.W.fnOf "_law_bad_part" "_law_bad_part" (defArgs s__law_bad_part) (defBody s__law_bad_part) (defScope s__law_bad_part) .none kV72 dc72 pm72 an72 cd72 ct72
    | 73 => PySem.W.fnOf "_law_copy" "_law_copy" (defArgs s__law_copy) (defBody s__law_copy) (defScope s__law_copy) .none kV73 dc73 pm73 an73 cd73 ct73
    | 74 => PySem.W.fnOf "_law_many" "_law_many" (defArgs s__law_many) (defBody s__law_many) (defScope s__law_many) .none kV74 dc74 pm74 an74 cd74 ct74
    | 75 => PySem.W.fnOf "_law_spoil" "_law_spoil" (defArgs s__law_spoil) (defBody s__law_spoil) (defScope s__law_spoil) .none kV75 dc75 pm75 an75 cd75 ct75
    | 76 => PySem.W.fnOf "_law_back" "_law_back" (defArgs s__law_back) (defBody s__law_back) (defScope s__law_back) .none kV76 dc76 pm76 an76 cd76 ct76
    | 77 => PySem.W.fnOf "law" "law" (defArgs s_law) (defBody s_law) (defScope s_law) .none kV77 dc77 pm77 an77 cd77 ct77
    | 1700 => PySem.W.fnOf "__init__" "InvalidQuestion.__init__" (defArgs s_InvalidQuestion___init__) (defBody s_InvalidQuestion___init__) (defScope s_InvalidQuestion___init__) .none kV1700 dc1700 pm1700 an1700 cd1700 ct1700
    | 5200 => PySem.W.fnOf "__init__" "Schema.__init__" (defArgs s_Schema___init__) (defBody s_Schema___init__) (defScope s_Schema___init__) .none kV5200 dc5200 pm5200 an5200 cd5200 ct5200
    | 5201 => PySem.W.fnOf "tables" "Schema.tables" (defArgs s_Schema_tables) (defBody s_Schema_tables) (defScope s_Schema_tables) .none kV5201 dc5201 pm5201 an5201 cd5201 ct5201
    | 5204 => PySem.W.fnOf "__eq__" "Schema.__eq__" (defArgs s_Schema___eq__) (defBody s_Schema___eq__) (defScope s_Schema___eq__) .none kV5204 dc5204 pm5204 an5204 cd5204 ct5204
    | 6600 => PySem.W.fnOf "__init__" "Question.__init__" (defArgs s_Question___init__) (defBody s_Question___init__) (defScope s_Question___init__) .none kV6600 dc6600 pm6600 an6600 cd6600 ct6600
    | 6601 => PySem.W.fnOf "part_list" "Question.part_list" (defArgs s_Question_part_list) (defBody s_Question_part_list) (defScope s_Question_part_list) .none kV6601 dc6601 pm6601 an6601 cd6601 ct6601
    | _ => PySem.W.fnOf "law" "law" (defArgs s_law) (defBody s_law) (defScope s_law) .none kV77 dc77 pm77 an77 cd77 ct77
  have T : Txt K mg aa dd := { F1700 := F1700, b1700 := b1700, F11 := F11, b11 := b11, g11 := PySem.W.mg_of X G a11, F12 := F12, b12 := b12, g12 := PySem.W.mg_of X G a12, F13 := F13, b13 := b13, g13 := PySem.W.mg_of X G a13, F15 := F15, b15 := b15, g15 := PySem.W.mg_of X G a15, F16 := F16, b16 := b16, g16 := PySem.W.mg_of X G a16, F17 := F17, b17 := b17, g17 := PySem.W.mg_of X G a17, F18 := F18, b18 := b18, g18 := PySem.W.mg_of X G a18, F31 := F31, b31 := b31, g31 := PySem.W.mg_of X G a31, F32 := F32, b32 := b32, g32 := PySem.W.mg_of X G a32, F33 := F33, b33 := b33, g33 := PySem.W.mg_of X G a33, F34 := F34, b34 := b34, g34 := PySem.W.mg_of X G a34, F35 := F35, b35 := b35, g35 := PySem.W.mg_of X G a35, F36 := F36, b36 := b36, g36 := PySem.W.mg_of X G a36, F37 := F37, b37 := b37, g37 := PySem.W.mg_of X G a37, F38 := F38, b38 := b38, g38 := PySem.W.mg_of X G a38, F39 := F39, b39 := b39, g39 := PySem.W.mg_of X G a39, F40 := F40, b40 := b40, g40 := PySem.W.mg_of X G a40, F41 := F41, b41 := b41, g41 := PySem.W.mg_of X G a41, F5200 := F5200, b5200 := b5200, F5201 := F5201, b5201 := b5201, F5204 := F5204, b5204 := b5204, F48 := F48, b48 := b48, g48 := PySem.W.mg_of X G a48, F49 := F49, b49 := b49, g49 := PySem.W.mg_of X G a49, F50 := F50, b50 := b50, g50 := PySem.W.mg_of X G a50, F51 := F51, b51 := b51, g51 := PySem.W.mg_of X G a51, F52 := F52, b52 := b52, g52 := PySem.W.mg_of X G a52, F6600 := F6600, b6600 := b6600, F6601 := F6601, b6601 := b6601, F58 := F58, b58 := b58, g58 := PySem.W.mg_of X G a58, F59 := F59, b59 := b59, g59 := PySem.W.mg_of X G a59, F60 := F60, b60 := b60, g60 := PySem.W.mg_of X G a60, F61 := F61, b61 := b61, g61 := PySem.W.mg_of X G a61, F62 := F62, b62 := b62, g62 := PySem.W.mg_of X G a62, F63 := F63, b63 := b63, g63 := PySem.W.mg_of X G a63, F64 := F64, b64 := b64, g64 := PySem.W.mg_of X G a64, F65 := F65, b65 := b65, g65 := PySem.W.mg_of X G a65, F66 := F66, b66 := b66, g66 := PySem.W.mg_of X G a66, F67 := F67, b67 := b67, g67 := PySem.W.mg_of X G a67, F68 := F68, b68 := b68, g68 := PySem.W.mg_of X G a68, F69 := F69, b69 := b69, g69 := PySem.W.mg_of X G a69, F70 := F70, b70 := b70, g70 := PySem.W.mg_of X G a70, F71 := F71, b71 := b71, g71 := PySem.W.mg_of X G a71, F72 := F72, b72 := b72, g72 := PySem.W.mg_of X G a72, F73 := F73, b73 := b73, g73 := PySem.W.mg_of X G a73, F74 := F74, b74 := b74, g74 := PySem.W.mg_of X G a74, F75 := F75, b75 := b75, g75 := PySem.W.mg_of X G a75, F76 := F76, b76 := b76, g76 := PySem.W.mg_of X G a76, F77 := F77, b77 := b77, g77 := PySem.W.mg_of X G a77, cg_2 := PySem.W.mg_of X G ac_2, x_2 := ⟨⟨_, _, _, _, _, _, _, _, _, _, _, _, _, _, _, xl_2, rfl⟩, xs_2, xe_2, xt_2, xk_2⟩, xf_2 := ⟨ya_2, yg_2, xe_2, yh_2⟩, xi_2 := ⟨ya_2, yg_2, xe_2, yh_2, za_2, zn_2, zt_2, zm_2⟩, cg_5 := PySem.W.mg_of X G ac_5, x_5 := ⟨⟨_, _, _, _, _, _, _, _, _, _, _, _, _, _, _, xl_5, rfl⟩, xs_5, xe_5, xt_5, xk_5⟩, xf_5 := ⟨ya_5, yg_5, xe_5, yh_5⟩, xi_5 := ⟨ya_5, yg_5, xe_5, yh_5, za_5, zn_5, zt_5, zm_5⟩, no_5_limit := na_5_limit, cg_7 := PySem.W.mg_of X G ac_7, x_7 := ⟨⟨_, _, _, _, _, _, _, _, _, _, _, _, _, _, _, xl_7, rfl⟩, xs_7, xe_7, xt_7, xk_7⟩, xf_7 := ⟨ya_7, yg_7, xe_7, yh_7⟩, xi_7 := ⟨ya_7, yg_7, xe_7, yh_7, za_7, zn_7, zt_7, zm_7⟩, in_7 := fi_7, ti_7 := ty_7, no_7_part := na_7_part, no_7_at := na_7_at, cg_42 := PySem.W.mg_of X G ac_42, cl_42 := ⟨pg_42, hd_42, po_42, sa_42⟩, M_42 := ⟨mk_42, fi_42, is_5200, kc_42⟩, no_42__tables := na_42__tables, no_42__keys := na_42__keys, no_42__services := na_42__services, cg_56 := PySem.W.mg_of X G ac_56, cl_56 := ⟨pg_56, hd_56, po_56, sa_56⟩, M_56 := ⟨mk_56, fi_56, is_6600, kc_56⟩, no_56_schema := na_56_schema, no_56_width := na_56_width, no_56__parts := na_56__parts, ic_42 := ⟨⟨pg_42, hd_42, po_42, sa_42⟩, oa_42, on_42, ot_42, om_42, kit_self _⟩, ne_42 := ne_42, om_42 := om_42, kit_7_2 := kit_ref yh_2 xt_2 es_7_2, kif_7_5 := es_7_5, exm_7_7 := PySem.W.exm_ref xe_7 yh_7 xt_7 es_7_7, p_5201 := ⟨pa_5201, pb_5201, pc_5201, ⟨_, pd_5201⟩⟩, m_5204 := ⟨ma_5204, mi_5204, k5204⟩, m_6601 := ⟨ma_6601, mi_6601, k6601⟩, z_abs := PySem.W.mg_none_of X G z_abs, z_all := PySem.W.mg_none_of X G z_all, z_bool := PySem.W.mg_none_of X G z_bool, z_dict := PySem.W.mg_none_of X G z_dict, z_enumerate := PySem.W.mg_none_of X G z_enumerate, z_int := PySem.W.mg_none_of X G z_int, z_isinstance := PySem.W.mg_none_of X G z_isinstance, z_len := PySem.W.mg_none_of X G z_len, z_list := PySem.W.mg_none_of X G z_list, z_range := PySem.W.mg_none_of X G z_range, z_sorted := PySem.W.mg_none_of X G z_sorted, z_str := PySem.W.mg_none_of X G z_str, z_tuple := PySem.W.mg_none_of X G z_tuple, c_LONGEST_WORD := ⟨_, PySem.W.mg_of X G v_LONGEST_WORD⟩, c_GREATEST_VALUE := ⟨_, PySem.W.mg_of X G v_GREATEST_VALUE⟩, c_MOST_TABLES := ⟨_, PySem.W.mg_of X G v_MOST_TABLES⟩, c_MOST_WIDTH_schemas := ⟨_, PySem.W.mg_of X G v_MOST_WIDTH_schemas⟩, c_MOST_SERVICES := ⟨_, PySem.W.mg_of X G v_MOST_SERVICES⟩, c_MOST_CAP := ⟨_, PySem.W.mg_of X G v_MOST_CAP⟩, c_MOST_WIDTH_questions := ⟨_, PySem.W.mg_of X G v_MOST_WIDTH_questions⟩, c_MOST_PARTS := ⟨_, PySem.W.mg_of X G v_MOST_PARTS⟩, c_MOST_ATOMS := ⟨_, PySem.W.mg_of X G v_MOST_ATOMS⟩ }
  exact ⟨_, fun s v => .of_eq rfl, fun base _ _ => ok_law T⟩
end My
open PySem PySem.W PyProof.Rows
set_option maxRecDepth 100000 in
set_option maxHeartbeats 0 in
theorem PySem.Challenge.cw_cappedcalls_k40_question_forms_holds : PySem.Challenge.rw_cappedcalls_k40_question_forms.Holds := by
  w_on; o_law; k_head; (case hw => w_witness2)
  k_fill
  refine L2.walk_of (l := PySem.Challenge.rw_cappedcalls_k40_question_forms) (n := 63) (k := 10) (x := "_law_script") (CX := fun _ => L2.CX0) (sp := fun w => My.spLaw _) rfl (by decide) rfl ⟨rfl, by decide, by decide⟩ (fun w h Y => PySem.W.kIn_of Y) ?F (fun _ _ a ns hl _ hS => ⟨a, ns, rfl, hS, hl, fun _ => rfl⟩) (fun _ _ _ _ _ h => h)
  case F =>
    intro w mg fa h KX G hmg
    refine' My.all_mk KX G hmg ?ac_2 ?ac_5 ?ac_7 ?ac_42 ?ac_56 ?fi_7 ?fi_42 ?fi_56 ?ma_5204 ?ma_6601 ?pa_5201 ?pd_5201 ?l1700 ?c1700 ?k1700 ?a11 ?l11 ?c11 ?k11 ?a12 ?l12 ?c12 ?k12 ?a13 ?l13 ?c13 ?k13 ?a15 ?l15 ?c15 ?k15 ?a16 ?l16 ?c16 ?k16 ?a17 ?l17 ?c17 ?k17 ?a18 ?l18 ?c18 ?k18 ?a31 ?l31 ?c31 ?k31 ?a32 ?l32 ?c32 ?k32 ?a33 ?l33 ?c33 ?k33 ?a34 ?l34 ?c34 ?k34 ?a35 ?l35 ?c35 ?k35 ?a36 ?l36 ?c36 ?k36 ?a37 ?l37 ?c37 ?k37 ?a38 ?l38 ?c38 ?k38 ?a39 ?l39 ?c39 ?k39 ?a40 ?l40 ?c40 ?k40 ?a41 ?l41 ?c41 ?k41 ?l5200 ?c5200 ?k5200 ?l5201 ?c5201 ?k5201 ?l5204 ?c5204 ?k5204 ?a48 ?l48 ?c48 ?k48 ?a49 ?l49 ?c49 ?k49 ?a50 ?l50 ?c50 ?k50 ?a51 ?l51 ?c51 ?k51 ?a52 ?l52 ?c52 ?k52 ?l6600 ?c6600 ?k6600 ?l6601 ?c6601 ?k6601 ?a58 ?l58 ?c58 ?k58 ?a59 ?l59 ?c59 ?k59 ?a60 ?l60 ?c60 ?k60 ?a61 ?l61 ?c61 ?k61 ?a62 ?l62 ?c62 ?k62 ?a63 ?l63 ?c63 ?k63 ?a64 ?l64 ?c64 ?k64 ?a65 ?l65 ?c65 ?k65 ?a66 ?l66 ?c66 ?k66 ?a67 ?l67 ?c67 ?k67 ?a68 ?l68 ?c68 ?k68 ?a69 ?l69 ?c69 ?k69 ?a70 ?l70 ?c70 ?k70 ?a71 ?l71 ?c71 ?k71 ?a72 ?l72 ?c72 ?k72 ?a73 ?l73 ?c73 ?k73 ?a74 ?l74 ?c74 ?k74 ?a75 ?l75 ?c75 ?k75 ?a76 ?l76 ?c76 ?k76 ?a77 ?l77 ?c77 ?k77 ?xl_2 ?xs_2 ?xe_2 ?xt_2 ?xk_2 ?ya_2 ?yg_2 ?yh_2 ?za_2 ?zn_2 ?zt_2 ?zm_2 ?xl_5 ?xs_5 ?xe_5 ?xt_5 ?xk_5 ?ya_5 ?yg_5 ?yh_5 ?za_5 ?zn_5 ?zt_5 ?zm_5 ?na_5_limit ?xl_7 ?xs_7 ?xe_7 ?xt_7 ?xk_7 ?ya_7 ?yg_7 ?yh_7 ?za_7 ?zn_7 ?zt_7 ?zm_7 ?ty_7 ?na_7_part ?na_7_at ?pg_42 ?hd_42 ?po_42 ?sa_42 ?mk_42 ?is_5200 ?kc_42 ?na_42__tables ?na_42__keys ?na_42__services ?pg_56 ?hd_56 ?po_56 ?sa_56 ?mk_56 ?is_6600 ?kc_56 ?na_56_schema ?na_56_width ?na_56__parts ?oa_42 ?on_42 ?ot_42 ?om_42 ?ne_42 ?es_7_2 ?es_7_5 ?es_7_7 ?pb_5201 ?pc_5201 ?mi_5204 ?mi_6601 ?z_abs ?z_all ?z_bool ?z_dict ?z_enumerate ?z_int ?z_isinstance ?z_len ?z_list ?z_range ?z_sorted ?z_str ?z_tuple ?v_LONGEST_WORD ?v_GREATEST_VALUE ?v_MOST_TABLES ?v_MOST_WIDTH_schemas ?v_MOST_SERVICES ?v_MOST_CAP ?v_MOST_WIDTH_questions ?v_MOST_PARTS ?v_MOST_ATOMS
    (case ac_2 => k_is)
    (case ac_5 => k_is)
    (case ac_7 => k_is)
    (case ac_42 => k_is)
    (case ac_56 => k_is)
    (case fi_7 => k_is)
    (case fi_42 => k_is)
    (case fi_56 => k_is)
    (case ma_5204 => k_is)
    (case ma_6601 => k_is)
    (case pa_5201 => k_is)
    (case pd_5201 => k_is)
    (case l1700 => k_is)
    (case c1700 => k_is)
    (case k1700 => k_is)
    (case a11 => k_is)
    (case l11 => k_is)
    (case c11 => k_is)
    (case k11 => k_is)
    (case a12 => k_is)
    (case l12 => k_is)
    (case c12 => k_is)
    (case k12 => k_is)
    (case a13 => k_is)
    (case l13 => k_is)
    (case c13 => k_is)
    (case k13 => k_is)
    (case a15 => k_is)
    (case l15 => k_is)
    (case c15 => k_is)
    (case k15 => k_is)
    (case a16 => k_is)
    (case l16 => k_is)
    (case c16 => k_is)
    (case k16 => k_is)
    (case a17 => k_is)
    (case l17 => k_is)
    (case c17 => k_is)
    (case k17 => k_is)
    (case a18 => k_is)
    (case l18 => k_is)
    (case c18 => k_is)
    (case k18 => k_is)
    (case a31 => k_is)
    (case l31 => k_is)
    (case c31 => k_is)
    (case k31 => k_is)
    (case a32 => k_is)
    (case l32 => k_is)
    (case c32 => k_is)
    (case k32 => k_is)
    (case a33 => k_is)
    (case l33 => k_is)
    (case c33 => k_is)
    (case k33 => k_is)
    (case a34 => k_is)
    (case l34 => k_is)
    (case c34 => k_is)
    (case k34 => k_is)
    (case a35 => k_is)
    (case l35 => k_is)
    (case c35 => k_is)
    (case k35 => k_is)
    (case a36 => k_is)
    (case l36 => k_is)
    (case c36 => k_is)
    (case k36 => k_is)
    (case a37 => k_is)
    (case l37 => k_is)
    (case c37 => k_is)
    (case k37 => k_is)
    (case a38 => k_is)
    (case l38 => k_is)
    (case c38 => k_is)
    (case k38 => k_is)
    (case a39 => k_is)
    (case l39 => k_is)
    (case c39 => k_is)
    (case k39 => k_is)
    (case a40 => k_is)
    (case l40 => k_is)
    (case c40 => k_is)
    (case k40 => k_is)
    (case a41 => k_is)
    (case l41 => k_is)
    (case c41 => k_is)
    (case k41 => k_is)
    (case l5200 => k_is)
    (case c5200 => k_is)
    (case k5200 => k_is)
    (case l5201 => k_is)
    (case c5201 => k_is)
    (case k5201 => k_is)
    (case l5204 => k_is)
    (case c5204 => k_is)
    (case k5204 => k_is)
    (case a48 => k_is)
    (case l48 => k_is)
    (case c48 => k_is)
    (case k48 => k_is)
    (case a49 => k_is)
    (case l49 => k_is)
    (case c49 => k_is)
    (case k49 => k_is)
    (case a50 => k_is)
    (case l50 => k_is)
    (case c50 => k_is)
    (case k50 => k_is)
    (case a51 => k_is)
    (case l51 => k_is)
    (case c51 => k_is)
    (case k51 => k_is)
    (case a52 => k_is)
    (case l52 => k_is)
    (case c52 => k_is)
    (case k52 => k_is)
    (case l6600 => k_is)
    (case c6600 => k_is)
    (case k6600 => k_is)
    (case l6601 => k_is)
    (case c6601 => k_is)
    (case k6601 => k_is)
    (case a58 => k_is)
    (case l58 => k_is)
    (case c58 => k_is)
    (case k58 => k_is)
    (case a59 => k_is)
    (case l59 => k_is)
    (case c59 => k_is)
    (case k59 => k_is)
    (case a60 => k_is)
    (case l60 => k_is)
    (case c60 => k_is)
    (case k60 => k_is)
    (case a61 => k_is)
    (case l61 => k_is)
    (case c61 => k_is)
    (case k61 => k_is)
    (case a62 => k_is)
    (case l62 => k_is)
    (case c62 => k_is)
    (case k62 => k_is)
    (case a63 => k_is)
    (case l63 => k_is)
    (case c63 => k_is)
    (case k63 => k_is)
    (case a64 => k_is)
    (case l64 => k_is)
    (case c64 => k_is)
    (case k64 => k_is)
    (case a65 => k_is)
    (case l65 => k_is)
    (case c65 => k_is)
    (case k65 => k_is)
    (case a66 => k_is)
    (case l66 => k_is)
    (case c66 => k_is)
    (case k66 => k_is)
    (case a67 => k_is)
    (case l67 => k_is)
    (case c67 => k_is)
    (case k67 => k_is)
    (case a68 => k_is)
    (case l68 => k_is)
    (case c68 => k_is)
    (case k68 => k_is)
    (case a69 => k_is)
    (case l69 => k_is)
    (case c69 => k_is)
    (case k69 => k_is)
    (case a70 => k_is)
    (case l70 => k_is)
    (case c70 => k_is)
    (case k70 => k_is)
    (case a71 => k_is)
    (case l71 => k_is)
    (case c71 => k_is)
    (case k71 => k_is)
    (case a72 => k_is)
    (case l72 => k_is)
    (case c72 => k_is)
    (case k72 => k_is)
    (case a73 => k_is)
    (case l73 => k_is)
    (case c73 => k_is)
    (case k73 => k_is)
    (case a74 => k_is)
    (case l74 => k_is)
    (case c74 => k_is)
    (case k74 => k_is)
    (case a75 => k_is)
    (case l75 => k_is)
    (case c75 => k_is)
    (case k75 => k_is)
    (case a76 => k_is)
    (case l76 => k_is)
    (case c76 => k_is)
    (case k76 => k_is)
    (case a77 => k_is)
    (case l77 => k_is)
    (case c77 => k_is)
    (case k77 => k_is)
    (case xl_2 => k_is)
    (case xs_2 => k_is)
    (case xe_2 => k_is)
    (case xt_2 => k_is)
    (case xk_2 => k_is)
    (case ya_2 => k_is)
    (case yg_2 => k_is)
    (case yh_2 => k_is)
    (case za_2 => k_is)
    (case zn_2 => k_is)
    (case zt_2 => k_is)
    (case zm_2 => k_is)
    (case xl_5 => k_is)
    (case xs_5 => k_is)
    (case xe_5 => k_is)
    (case xt_5 => k_is)
    (case xk_5 => k_is)
    (case ya_5 => k_is)
    (case yg_5 => k_is)
    (case yh_5 => k_is)
    (case za_5 => k_is)
    (case zn_5 => k_is)
    (case zt_5 => k_is)
    (case zm_5 => k_is)
    (case na_5_limit => k_is)
    (case xl_7 => k_is)
    (case xs_7 => k_is)
    (case xe_7 => k_is)
    (case xt_7 => k_is)
    (case xk_7 => k_is)
    (case ya_7 => k_is)
    (case yg_7 => k_is)
    (case yh_7 => k_is)
    (case za_7 => k_is)
    (case zn_7 => k_is)
    (case zt_7 => k_is)
    (case zm_7 => k_is)
    (case ty_7 => k_is)
    (case na_7_part => k_is)
    (case na_7_at => k_is)
    (case pg_42 => k_is)
    (case hd_42 => k_is)
    (case po_42 => k_is)
    (case sa_42 => k_is)
    (case mk_42 => k_is)
    (case is_5200 => k_is)
    (case kc_42 => k_is)
    (case na_42__tables => k_is)
    (case na_42__keys => k_is)
    (case na_42__services => k_is)
    (case pg_56 => k_is)
    (case hd_56 => k_is)
    (case po_56 => k_is)
    (case sa_56 => k_is)
    (case mk_56 => k_is)
    (case is_6600 => k_is)
    (case kc_56 => k_is)
    (case na_56_schema => k_is)
    (case na_56_width => k_is)
    (case na_56__parts => k_is)
    (case oa_42 => k_is)
    (case on_42 => k_is)
    (case ot_42 => k_is)
    (case om_42 => k_is)
    (case ne_42 => k_is)
    (case es_7_2 => first | rfl | k_is)
    (case es_7_5 => first | rfl | k_is)
    (case es_7_7 => first | rfl | k_is)
    (case pb_5201 => k_is)
    (case pc_5201 => k_is)
    (case mi_5204 => k_is)
    (case mi_6601 => k_is)
    (case z_abs => k_is)
    (case z_all => k_is)
    (case z_bool => k_is)
    (case z_dict => k_is)
    (case z_enumerate => k_is)
    (case z_int => k_is)
    (case z_isinstance => k_is)
    (case z_len => k_is)
    (case z_list => k_is)
    (case z_range => k_is)
    (case z_sorted => k_is)
    (case z_str => k_is)
    (case z_tuple => k_is)
    (case v_LONGEST_WORD => k_is)
    (case v_GREATEST_VALUE => k_is)
    (case v_MOST_TABLES => k_is)
    (case v_MOST_WIDTH_schemas => k_is)
    (case v_MOST_SERVICES => k_is)
    (case v_MOST_CAP => k_is)
    (case v_MOST_WIDTH_questions => k_is)
    (case v_MOST_PARTS => k_is)
    (case v_MOST_ATOMS => k_is)

