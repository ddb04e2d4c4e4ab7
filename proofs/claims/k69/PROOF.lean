import PyProof.Rows.All
import Wide.All
import OpenK.AllK
import Wide.FinOn
import HandS.ForMost
import HandS.IsInst
import HandS.Wide
import HandS.Evl
import HandS.DictComp
import HandS.Conv
import HandS.More
import HandS.Deep
import HandS.ForExc
import HandS.ExcInit
import HandS.ExcField
import HandS.ExcIs
import HandS.Property
import KE.KExcIs
import HandS.NoneIn
import HandS.DeepEq
import HandS.Finally
import HandS.CallSlots
import HandS.Walk
import HandS.DictTup
import HandS.Iter
import HandS.TupLen
import PyProof.DictMoreH
import HandS.Rev
import HandS.Codes
import KE.DataCmp
import KE.SortKeyHeap
import HandS.SortKw
import KE.KEqNest
import HandS.DictEq
import HandS.TupAny
import HandS.Star
import HandS.Text
import HandS.RaiseMore
import HandS.CallLocal
import HandS.Zip
import PySem.Challenge.RW_cappedcalls_k69_lines_of_questions
set_option Elab.async false
set_option linter.all false
set_option maxRecDepth 100000
set_option maxHeartbeats 4000000
namespace SK
open PySem PySem.SeqAt PySem.W PySem.Calls PyProof.Rows
/-! ### one tuple below another: only the first place that differs has to be asked -/
theorem tup_lt1 (l b : Addr) (us ws : Array Value) (n1 n2 : Nat) (d1 d2 : Option Addr) (t1 t2 : Array (Option Value)) (e r : Nat → Bool) :
    Meets (Builtin.«tuple.__lt__» ⟨[.ref l, .ref b], []⟩) (fun A R s =>
      (s.heap.get? l = some { cls := .type "tuple", dict := d1, data := .seq us n1, slots := t1 } ∧ s.heap.get? b = some { cls := .type "tuple", dict := d2, data := .seq ws n2, slots := t2 }) ∧
      (∀ j (x1 : j < us.size) (x2 : j < ws.size), EqAt A.in1 s us[j] ws[j] (e j)) ∧
      (∀ j (x1 : j < us.size) (x2 : j < ws.size), (∀ k, k < j → e k = true) → e j = false → RcLt A.in1 s us[j] ws[j] (r j)) ∧
      R (.ok (.ret (.bool (firstLt e r (decide (us.size < ws.size)) (List.range (min us.size ws.size)))))) s) := by
  refine .of_wp fun prog w A R s h => ?_
  obtain ⟨hp, g, d, tk, os⟩ := s
  obtain ⟨⟨hl, hb⟩, he, hr, h⟩ := h
  have sub := AutoSeq1.sub_tuple_tuple
  have len : (us.toList.zip ws.toList).length = min us.size ws.size := by simp
  wp_walk using wpAny_loadPart' hl, wpAny_loadPart' hb, wpAny_forIn_list _ (fun left b s' => (b.1 = none ∧ s' = ⟨hp, g, d, tk, os⟩) ∧ ∃ i, (left = (us.toList.zip ws.toList).drop i ∧ ∀ k, k < i → e k = true) ∧
    R (.ok (.ret (.bool (firstLt e r (decide (us.size < ws.size)) ((List.range (min us.size ws.size)).drop i))))) ⟨hp, g, d, tk, os⟩) _
  case turn =>
    rintro ⟨y, x⟩ left b s' ⟨⟨b0, rfl⟩, i, ⟨hz, hk⟩, hR⟩
    have lt : i < (us.toList.zip ws.toList).length := by
      refine Nat.lt_of_not_le fun q => ?_
      rw [List.drop_of_length_le q] at hz
      cases hz
    have lm : i < min us.size ws.size := by omega
    have x1 : i < us.size := by omega
    have x2 : i < ws.size := by omega
    rw [List.drop_eq_getElem_cons lt] at hz
    injection hz with z1 z2
    have ey : y = us[i] := by simpa using congrArg Prod.fst z1
    have ex : x = ws[i] := by simpa using congrArg Prod.snd z1
    subst ey ex
    rw [show (List.range (min us.size ws.size)).drop i = i :: (List.range (min us.size ws.size)).drop (i + 1) by simp [List.drop_eq_getElem_cons, lm]] at hR
    refine wpAny_bind (he i x1 x2 prog w _ _ ?_)
    cases q : e i with
    | true =>
      rw [firstLt_yes q] at hR
      wp_walk
      exact ⟨⟨rfl, rfl⟩, i + 1, ⟨z2, fun k hki => by
        rcases Nat.lt_succ_iff_lt_or_eq.mp hki with h | h
        · exact hk k h
        · rw [h]
          exact q⟩, hR⟩
    | false =>
      rw [firstLt_no q] at hR
      have hr' : ∀ (E Q : Value → Shared → Prop), Q (.bool (r i)) ⟨hp, g, d, tk, os⟩ → wpAny (model prog w) A.in1 (richCompare .Lt us[i] ws[i]) Q E ⟨hp, g, d, tk, os⟩ := fun E Q => hr i x1 x2 hk q prog w E Q
      generalize richCompare .Lt us[i] ws[i] = m at hr' ⊢
      wp_walk
      refine hr' _ _ ?_
      wp_walk
      exact ⟨_, rfl, hR⟩
  case fin =>
    rintro ⟨b1, b2⟩ s' ⟨⟨b0, rfl⟩, i, ⟨hz, _⟩, hR⟩
    simp only at b0
    subst b0
    have ge : min us.size ws.size ≤ i := by
      refine Nat.le_of_not_lt fun q => ?_
      rw [← len] at q
      rw [List.drop_eq_getElem_cons q] at hz
      cases hz
    rw [List.drop_of_length_le (by simpa using ge)] at hR
    wp_walk
    exact ⟨_, rfl, by simpa [Builtin.Tuple.tupleCompareSizes, firstLt] using hR⟩
  case h => exact ⟨⟨rfl, rfl⟩, 0, ⟨rfl, fun k hk => absurd hk (Nat.not_lt_zero k)⟩, by simpa using h⟩
section
variable {A : Around} {s : Shared}
theorem rc_tups {l b : Addr} {us ws : Array Value} {e r : Nat → Bool} (hl : s.heap.IsTuple l us) (hb : s.heap.IsTuple b ws) (hu : A.units < cLine)
    (he : ∀ j (x1 : j < us.size) (x2 : j < ws.size), EqAt A.in1 s us[j] ws[j] (e j)) (hr : ∀ j (x1 : j < us.size) (x2 : j < ws.size), (∀ k, k < j → e k = true) → e j = false → RcLt A.in1 s us[j] ws[j] (r j)) :
    RcLt A s (.ref l) (.ref b) (firstLt e r (decide (us.size < ws.size)) (List.range (min us.size ws.size))) := fun prog w E Q h => by
  obtain ⟨⟨c1, d1, x1, t1⟩, o1, h1, n1, k1⟩ := id hl
  obtain ⟨⟨c2, d2, x2, t2⟩, o2, h2, n2, k2⟩ := id hb
  simp only at h1 k1 h2 k2
  subst h1 k1 h2 k2
  exact richCompare_meets_room (op := .Lt) ⟨_, o1, rfl⟩ ⟨_, o2, rfl⟩ F.slot_tuple_lt F.entry_tuple_lt (F.args_tuple_lt_2 _ _) (tup_lt1 l b us ws n1 n2 d1 d2 t1 t2 e r) ⟨⟨o1, o2⟩, he, hr, (fun z => nomatch z), h⟩ hu
theorem call_tups {prog : Program} {w : World} {E Q : Value → Shared → Prop} {l b : Addr} {us ws : Array Value} {e r : Nat → Bool} (hl : s.heap.IsTuple l us) (hb : s.heap.IsTuple b ws)
    (he : ∀ j (x1 : j < us.size) (x2 : j < ws.size), EqAt A.in1 s us[j] ws[j] (e j)) (hr : ∀ j (x1 : j < us.size) (x2 : j < ws.size), (∀ k, k < j → e k = true) → e j = false → RcLt A.in1 s us[j] ws[j] (r j))
    (h : Q (.bool (firstLt e r (decide (us.size < ws.size)) (List.range (min us.size ws.size)))) s) : wpAny (model prog w) A (call (.builtin "tuple.__lt__") [.ref l, .ref b]) Q E s := by
  obtain ⟨⟨c1, d1, x1, t1⟩, o1, h1, n1, k1⟩ := id hl
  obtain ⟨⟨c2, d2, x2, t2⟩, o2, h2, n2, k2⟩ := id hb
  simp only at h1 k1 h2 k2
  subst h1 k1 h2 k2
  exact call_meets F.slot_tuple_lt ⟨_, o1, rfl⟩ F.entry_tuple_lt (F.args_tuple_lt_2 _ _) (tup_lt1 l b us ws n1 n2 d1 d2 t1 t2 e r) ⟨⟨o1, o2⟩, he, hr, h⟩
end
/-! ### data that can be asked for their order -/
mutual
def okLt : PyData → PyData → Bool
  | .bool _, .bool _ => true
  | .int _, .int _ => true
  | .str _, .str _ => true
  | .tuple xs, .tuple ys => okAll xs ys
  | _, _ => false
def okAll : List PyData → List PyData → Bool
  | x :: xs, y :: ys => if PyData.eqv x y = true then okAll xs ys else okLt x y
  | [], _ => true
  | _ :: _, [] => true
end
mutual
def ltD : PyData → PyData → Bool
  | .bool a, .bool b => decide (b2i a < b2i b)
  | .int a, .int b => decide (a < b)
  | .str x, .str y => decide (x.cps.toList < y.cps.toList)
  | .tuple xs, .tuple ys => ltAll xs ys
  | _, _ => false
def ltAll : List PyData → List PyData → Bool
  | x :: xs, y :: ys => if PyData.eqv x y = true then ltAll xs ys else ltD x y
  | [], _ :: _ => true
  | [], [] => false
  | _ :: _, [] => false
end
theorem okAll_at : ∀ (xs ys : List PyData) (j : Nat), okAll xs ys = true → (∀ k, k < j → pairEq xs ys k = true) → pairEq xs ys j = false → j < xs.length → j < ys.length → okLt (xs.getD j .none) (ys.getD j .none) = true
  | [], _, _, _, _, _, h, _ => absurd h (Nat.not_lt_zero _)
  | _ :: _, [], _, _, _, _, _, h => absurd h (Nat.not_lt_zero _)
  | x :: xs, y :: ys, 0, h, _, q, _, _ => by
    have q' : PyData.eqv x y = false := q
    simp only [okAll, q', Bool.false_eq_true, if_false] at h
    exact h
  | x :: xs, y :: ys, j + 1, h, hk, q, h1, h2 => by
    have q' : PyData.eqv x y = true := hk 0 (Nat.succ_pos j)
    simp only [okAll, q', if_true] at h
    exact okAll_at xs ys j h (fun k hkj => hk (k + 1) (Nat.succ_lt_succ hkj)) q (Nat.lt_of_succ_lt_succ h1) (Nat.lt_of_succ_lt_succ h2)
theorem first_all : ∀ (xs ys : List PyData), firstLt (pairEq xs ys) (fun j => ltD (xs.getD j .none) (ys.getD j .none)) (decide (xs.length < ys.length)) (List.range (min xs.length ys.length)) = ltAll xs ys
  | [], [] => rfl
  | [], _ :: _ => by simp [firstLt, ltAll]
  | _ :: _, [] => by simp [firstLt, ltAll]
  | x :: xs, y :: ys => by
    have ih := first_all xs ys
    rw [show min (x :: xs).length (y :: ys).length = min xs.length ys.length + 1 by rw [List.length_cons, List.length_cons]; omega,
      show decide ((x :: xs).length < (y :: ys).length) = decide (xs.length < ys.length) by rw [List.length_cons, List.length_cons]; exact decide_eq_decide.mpr (by omega), List.range_succ_eq_map]
    cases q : PyData.eqv x y with
    | true =>
      rw [firstLt_yes (show pairEq (x :: xs) (y :: ys) 0 = true from q), firstLt_map]
      simp only [ltAll, q, if_true]
      exact ih
    | false =>
      rw [firstLt_no (show pairEq (x :: xs) (y :: ys) 0 = false from q)]
      simp only [ltAll, q, Bool.false_eq_true, if_false]
      rfl
mutual
theorem rc_ok : ∀ (da db : PyData) (A : Around) (s : Shared) (a b : Value) (as bs : List Addr), Reads s.heap a da as → Reads s.heap b db bs → da.canLay0 = true → db.canLay0 = true → okLt da db = true → A.units + min da.depth db.depth < cLine → RcLt A s a b (ltD da db)
  | .bool x, .bool y, A, s, a, b, as, bs, ra, rb, _, _, _, _ => by
    cases ra
    cases rb
    exact fun prog w E Q hq => lt_bool hq
  | .int x, .int y, A, s, a, b, as, bs, ra, rb, _, _, _, _ => by
    cases ra
    cases rb
    exact fun prog w E Q hq => P.lt_int hq
  | .str x, .str y, A, s, a, b, as, bs, ra, rb, _, _, _, _ => by
    cases ra
    cases rb
    exact fun prog w E Q hq => P.lt_str hq
  | .tuple xs, .tuple ys, A, s, a, b, as, bs, ra, rb, la, lb, h, hu => by
    have hok : okAll xs ys = true := by simpa [okLt] using h
    have la' : PyData.canLayAll0 xs = true := by simpa [PyData.canLay0] using la
    have lb' : PyData.canLayAll0 ys = true := by simpa [PyData.canLay0] using lb
    cases ra with
    | @tuple l o us n _ as₁ h1 h2 h3 h4 =>
      cases rb with
      | @tuple l' o' ws n' _ bs₁ k1 k2 k3 k4 =>
        have n1 : us.size = xs.length := by simpa using ReadsAll.length _ _ _ h4
        have n2 : ws.size = ys.length := by simpa using ReadsAll.length _ _ _ k4
        show RcLt A s (.ref l) (.ref l') (ltAll xs ys)
        rw [← first_all xs ys, ← n1, ← n2]
        refine rc_tups ⟨_, h1, h2, _, h3⟩ ⟨_, k1, k2, _, k3⟩ (room_here hu) (fun j j1 j2 => ?_) fun j j1 j2 hk hj => ?_
        · have := eqAt_readsAll xs ys A.in1 s us.toList ws.toList _ _ h4 k4 la' lb' (room_in hu) j (by simpa using j1) (by simpa using j2)
          simpa using this
        · have := rc_okAll xs ys A.in1 s us.toList ws.toList _ _ h4 k4 la' lb' (room_in hu) j (by simpa using j1) (by simpa using j2) (okAll_at xs ys j hok hk hj (by omega) (by omega))
          simpa using this
  | .none, _, _, _, _, _, _, _, _, _, _, _, h, _ => absurd h (by simp [okLt])
  | .list _, _, _, _, _, _, _, _, _, _, _, _, h, _ => absurd h (by simp [okLt])
  | .dict _, _, _, _, _, _, _, _, _, _, _, _, h, _ => absurd h (by simp [okLt])
  | .bool _, .none, _, _, _, _, _, _, _, _, _, _, h, _ => absurd h (by simp [okLt])
  | .bool _, .int _, _, _, _, _, _, _, _, _, _, _, h, _ => absurd h (by simp [okLt])
  | .bool _, .str _, _, _, _, _, _, _, _, _, _, _, h, _ => absurd h (by simp [okLt])
  | .bool _, .list _, _, _, _, _, _, _, _, _, _, _, h, _ => absurd h (by simp [okLt])
  | .bool _, .tuple _, _, _, _, _, _, _, _, _, _, _, h, _ => absurd h (by simp [okLt])
  | .bool _, .dict _, _, _, _, _, _, _, _, _, _, _, h, _ => absurd h (by simp [okLt])
  | .int _, .none, _, _, _, _, _, _, _, _, _, _, h, _ => absurd h (by simp [okLt])
  | .int _, .bool _, _, _, _, _, _, _, _, _, _, _, h, _ => absurd h (by simp [okLt])
  | .int _, .str _, _, _, _, _, _, _, _, _, _, _, h, _ => absurd h (by simp [okLt])
  | .int _, .list _, _, _, _, _, _, _, _, _, _, _, h, _ => absurd h (by simp [okLt])
  | .int _, .tuple _, _, _, _, _, _, _, _, _, _, _, h, _ => absurd h (by simp [okLt])
  | .int _, .dict _, _, _, _, _, _, _, _, _, _, _, h, _ => absurd h (by simp [okLt])
  | .str _, .none, _, _, _, _, _, _, _, _, _, _, h, _ => absurd h (by simp [okLt])
  | .str _, .bool _, _, _, _, _, _, _, _, _, _, _, h, _ => absurd h (by simp [okLt])
  | .str _, .int _, _, _, _, _, _, _, _, _, _, _, h, _ => absurd h (by simp [okLt])
  | .str _, .list _, _, _, _, _, _, _, _, _, _, _, h, _ => absurd h (by simp [okLt])
  | .str _, .tuple _, _, _, _, _, _, _, _, _, _, _, h, _ => absurd h (by simp [okLt])
  | .str _, .dict _, _, _, _, _, _, _, _, _, _, _, h, _ => absurd h (by simp [okLt])
  | .tuple _, .none, _, _, _, _, _, _, _, _, _, _, h, _ => absurd h (by simp [okLt])
  | .tuple _, .bool _, _, _, _, _, _, _, _, _, _, _, h, _ => absurd h (by simp [okLt])
  | .tuple _, .int _, _, _, _, _, _, _, _, _, _, _, h, _ => absurd h (by simp [okLt])
  | .tuple _, .str _, _, _, _, _, _, _, _, _, _, _, h, _ => absurd h (by simp [okLt])
  | .tuple _, .list _, _, _, _, _, _, _, _, _, _, _, h, _ => absurd h (by simp [okLt])
  | .tuple _, .dict _, _, _, _, _, _, _, _, _, _, _, h, _ => absurd h (by simp [okLt])
theorem rc_okAll : ∀ (xs ys : List PyData) (A : Around) (s : Shared) (vs ws : List Value) (as bs : List Addr), ReadsAll s.heap vs xs as → ReadsAll s.heap ws ys bs → PyData.canLayAll0 xs = true → PyData.canLayAll0 ys = true → A.units + min (PyData.depthAll xs) (PyData.depthAll ys) < cLine →
    ∀ j (h1 : j < vs.length) (h2 : j < ws.length), okLt (xs.getD j .none) (ys.getD j .none) = true → RcLt A s vs[j] ws[j] (ltD (xs.getD j .none) (ys.getD j .none))
  | [], _, _, _, _, _, _, _, ra, _, _, _, _, j, h1, _, _ => by
    cases ra
    exact absurd h1 (Nat.not_lt_zero _)
  | _ :: _, [], _, _, _, _, _, _, _, rb, _, _, _, j, _, h2, _ => by
    cases rb
    exact absurd h2 (Nat.not_lt_zero _)
  | x :: xs, y :: ys, A, s, _, _, _, _, ra, rb, la, lb, hu, j, h1, h2, hok => by
    have la' : x.canLay0 = true ∧ PyData.canLayAll0 xs = true := by simpa [PyData.canLayAll0] using la
    have lb' : y.canLay0 = true ∧ PyData.canLayAll0 ys = true := by simpa [PyData.canLayAll0] using lb
    cases ra with
    | cons r rs =>
      cases rb with
      | cons r' rs' =>
        cases j with
        | zero => exact rc_ok x y A s _ _ _ _ r r' la'.1 lb'.1 hok (room_head hu)
        | succ j => exact rc_okAll xs ys A s _ _ _ _ rs rs' la'.2 lb'.2 (room_tail hu) j (Nat.lt_of_succ_lt_succ h1) (Nat.lt_of_succ_lt_succ h2) hok
end
end SK
namespace SK
open PySem PySem.SeqAt PySem.W PySem.Calls PyProof.Rows
mutual
theorem alike_self : ∀ d : PyData, d.canLay0 = true → alike d d = true
  | .none, _ => rfl
  | .bool _, _ => rfl
  | .int _, _ => rfl
  | .str _, _ => rfl
  | .list xs, h => by
    show alikeAll xs xs = true
    exact alike_selfs xs (by simpa [PyData.canLay0] using h)
  | .tuple xs, h => by
    show alikeAll xs xs = true
    exact alike_selfs xs (by simpa [PyData.canLay0] using h)
  | .dict _, h => absurd h (by simp [PyData.canLay0])
theorem alike_selfs : ∀ ds : List PyData, PyData.canLayAll0 ds = true → alikeAll ds ds = true
  | [], _ => rfl
  | d :: ds, h => by
    have h' : d.canLay0 = true ∧ PyData.canLayAll0 ds = true := by simpa [PyData.canLayAll0] using h
    show (alike d d && alikeAll ds ds) = true
    rw [alike_self d h'.1, alike_selfs ds h'.2]
    rfl
end
mutual
theorem reads_one {h : Heap} : ∀ (d d' : PyData) (v : Value) (as as' : List Addr), d.canLay0 = true → d'.canLay0 = true → Reads h v d as → Reads h v d' as' → d = d'
  | .none, _, _, _, _, _, _, r, r' => by
    cases r
    cases r'
    rfl
  | .bool _, _, _, _, _, _, _, r, r' => by
    cases r
    cases r'
    rfl
  | .int _, _, _, _, _, _, _, r, r' => by
    cases r
    cases r'
    rfl
  | .str _, _, _, _, _, _, _, r, r' => by
    cases r
    cases r'
    rfl
  | .list xs, d', _, _, _, l, l', r, r' => by
    cases r with
    | list h1 h2 h3 h4 =>
      cases r' with
      | list k1 k2 k3 k4 =>
        rw [h1] at k1
        cases k1
        rw [h3] at k3
        cases k3
        rw [reads_ones xs _ _ _ _ (by simpa [PyData.canLay0] using l) (by simpa [PyData.canLay0] using l') h4 k4]
      | tuple k1 k2 k3 k4 =>
        rw [h1] at k1
        cases k1
        rw [h2] at k2
        exact absurd k2 (by simp)
      | dict k1 => exact absurd l' (by simp [PyData.canLay0])
  | .tuple xs, d', _, _, _, l, l', r, r' => by
    cases r with
    | tuple h1 h2 h3 h4 =>
      cases r' with
      | tuple k1 k2 k3 k4 =>
        rw [h1] at k1
        cases k1
        rw [h3] at k3
        cases k3
        rw [reads_ones xs _ _ _ _ (by simpa [PyData.canLay0] using l) (by simpa [PyData.canLay0] using l') h4 k4]
      | list k1 k2 k3 k4 =>
        rw [h1] at k1
        cases k1
        rw [h2] at k2
        exact absurd k2 (by simp)
      | dict k1 => exact absurd l' (by simp [PyData.canLay0])
  | .dict _, _, _, _, _, l, _, _, _ => absurd l (by simp [PyData.canLay0])
theorem reads_ones {h : Heap} : ∀ (ds ds' : List PyData) (vs : List Value) (as as' : List Addr), PyData.canLayAll0 ds = true → PyData.canLayAll0 ds' = true → ReadsAll h vs ds as → ReadsAll h vs ds' as' → ds = ds'
  | [], _, _, _, _, _, _, r, r' => by
    cases r
    cases r'
    rfl
  | d :: ds, _, _, _, _, l, l', r, r' => by
    cases r with
    | cons h1 h2 =>
      cases r' with
      | cons k1 k2 =>
        have q : d.canLay0 = true ∧ PyData.canLayAll0 ds = true := by simpa [PyData.canLayAll0] using l
        have q' := l'
        simp only [PyData.canLayAll0, Bool.and_eq_true] at q'
        rw [reads_one d _ _ _ _ q.1 q'.1 h1 k1, reads_ones ds _ _ _ _ q.2 q'.2 h2 k2]
end
/-! ### keys that are tuples, ordered by tokens -/
abbrev Tok' := PyData → List (Int ⊕ List Nat)
noncomputable def kk (h : Heap) (ds : List PyData) (tok : Tok') : PyProof.Rows.KeyKind where
  toKeyOrd := listOrd itemOrd
  keyOf v := open Classical in if q : ∃ d, d ∈ ds ∧ ∃ as, Reads h v d as then some (tok q.choose) else none
  dflt := ([] : List (Int ⊕ List Nat))
/-- the keys are tuples that can be asked for their order, and the tokens tell it -/
structure Keys (ds : List PyData) (tok : Tok') : Prop where
  lay : ∀ d ∈ ds, d.canLay0 = true
  tup : ∀ d ∈ ds, ∃ xs, d = .tuple xs
  ok : ∀ d ∈ ds, ∀ d' ∈ ds, okLt d d' = true
  lt : ∀ d ∈ ds, ∀ d' ∈ ds, ltD d d' = PyProof.Rows.lexLt itemOrd (tok d) (tok d')
  ty : ∀ x r y t, PyData.tuple (x :: r) ∈ ds → PyData.tuple (y :: t) ∈ ds → dataType x = dataType y
theorem kk_some {h : Heap} {ds : List PyData} {tok : Tok'} (hl : ∀ d ∈ ds, d.canLay0 = true) {v : Value} {d : PyData} {as : List Addr} (hd : d ∈ ds) (r : Reads h v d as) : (kk h ds tok).keyOf v = some (tok d) := by
  have q : ∃ d, d ∈ ds ∧ ∃ as, Reads h v d as := ⟨d, hd, as, r⟩
  have e : (kk h ds tok).keyOf v = some (tok q.choose) := dif_pos q
  obtain ⟨h1, as', h2⟩ := q.choose_spec
  rw [e, reads_one _ _ _ _ _ (hl _ h1) (hl _ hd) h2 r]
theorem kk_inv {h : Heap} {ds : List PyData} {tok : Tok'} {v : Value} {k : List (Int ⊕ List Nat)} (e : (kk h ds tok).keyOf v = some k) : ∃ d as, d ∈ ds ∧ Reads h v d as ∧ k = tok d := by
  by_cases q : ∃ d, d ∈ ds ∧ ∃ as, Reads h v d as
  · have e' : (kk h ds tok).keyOf v = some (tok q.choose) := dif_pos q
    obtain ⟨h1, as', h2⟩ := q.choose_spec
    rw [e'] at e
    exact ⟨_, as', h1, h2, (Option.some.inj e).symm⟩
  · have e' : (kk h ds tok).keyOf v = none := dif_neg q
    rw [e'] at e
    cases e
section
variable {prog : Program} {w : World} {A : Around} {E : Value → Shared → Prop} {s : Shared}
theorem one_ok {f : Bool} {da db : PyData} {a b : Value} {as bs : List Addr} {Q : Bool → Shared → Prop} (ra : Reads s.heap a da as) (rb : Reads s.heap b db bs) (la : da.canLay0 = true) (lb : db.canLay0 = true) (h : okLt da db = true)
    (hu : A.units + min da.depth db.depth < cLine) (hq : Q (ltD da db) s) : wpAny (model prog w) A (oneLt' f a b) Q E s := by
  cases f with
  | false =>
    rw [oneLt'_eq]
    simp only [Bool.false_eq_true, if_false]
    exact wpAny_bind (rc_ok da db A s a b as bs ra rb la lb h hu prog w E _ (wpAny_truthy_bool hq))
  | true =>
    cases da <;> cases db <;> first | (simp [okLt] at h; done) | skip
    · cases ra
      cases rb
      exact oneLt_bool hq
    · cases ra
      cases rb
      exact oneLt_int hq
    · cases ra
      cases rb
      exact oneLt_str hq
    · rename_i xs ys
      have hok : okAll xs ys = true := by simpa [okLt] using h
      have la' : PyData.canLayAll0 xs = true := by simpa [PyData.canLay0] using la
      have lb' : PyData.canLayAll0 ys = true := by simpa [PyData.canLay0] using lb
      cases ra with
      | @tuple l o us n _ as₁ h1 h2 h3 h4 =>
        cases rb with
        | @tuple l' o' ws n' _ bs₁ k1 k2 k3 k4 =>
          have n1 : us.size = xs.length := by simpa using ReadsAll.length _ _ _ h4
          have n2 : ws.size = ys.length := by simpa using ReadsAll.length _ _ _ k4
          have hq : Q (ltAll xs ys) s := hq
          rw [← first_all xs ys, ← n1, ← n2] at hq
          rw [oneLt'_eq]
          simp only [if_true]
          refine wpAny_bind (wpAny_cRoomFor (room_here hu) ?_)
          refine wpAny_bind (wpAny_callSpecialIfBound?_slot (T := "tuple") ⟨_, h1, h2⟩ F.slot_tuple_lt (call_tups (e := pairEq xs ys) (r := fun j => ltD (xs.getD j .none) (ys.getD j .none)) ⟨_, h1, h2, _, h3⟩ ⟨_, k1, k2, _, k3⟩ (fun j j1 j2 => ?_) (fun j j1 j2 hk hj => ?_) ?_))
          · have := eqAt_readsAll xs ys A.in1 s us.toList ws.toList _ _ h4 k4 la' lb' (room_in hu) j (by simpa using j1) (by simpa using j2)
            simpa using this
          · have := rc_okAll xs ys A.in1 s us.toList ws.toList _ _ h4 k4 la' lb' (room_in hu) j (by simpa using j1) (by simpa using j2) (okAll_at xs ys j hok hk hj (by omega) (by omega))
            simpa using this
          · exact wpAny_truthy_bool hq
theorem katLex_ok {b fin : Bool} {Q : Bool → Shared → Prop} : ∀ (xs ys : List PyData) (i : Nat) (vs ws : List Value) (as bs : List Addr), ReadsAll s.heap vs xs as → ReadsAll s.heap ws ys bs → PyData.canLayAll0 xs = true → PyData.canLayAll0 ys = true → okAll xs ys = true →
    A.units + min (PyData.depthAll xs) (PyData.depthAll ys) < cLine → fin = decide (xs.length < ys.length) → Q (ltAll xs ys) s → KatLex prog w A b fin Q (vs.zip ws) i s
  | [], [], i, _, _, _, _, ra, rb, _, _, _, _, hf, hq => by
    cases ra
    cases rb
    have e : fin = false := by rw [hf]; rfl
    subst e
    exact kat_nil hq
  | [], y :: ys, i, _, _, _, _, ra, rb, _, _, _, _, hf, hq => by
    cases ra
    have e : fin = true := by rw [hf]; exact decide_eq_true (Nat.succ_pos _)
    subst e
    rw [List.zip_nil_left]
    exact kat_nil hq
  | x :: xs, [], i, _, _, _, _, ra, rb, _, _, _, _, hf, hq => by
    cases rb
    have e : fin = false := by rw [hf]; exact decide_eq_false (Nat.not_lt_zero _)
    subst e
    rw [List.zip_nil_right]
    exact kat_nil hq
  | x :: xs, y :: ys, i, _, _, _, _, ra, rb, la, lb, h, hu, hf, hq => by
    have la' : x.canLay0 = true ∧ PyData.canLayAll0 xs = true := by simpa [PyData.canLayAll0] using la
    have lb' : y.canLay0 = true ∧ PyData.canLayAll0 ys = true := by simpa [PyData.canLayAll0] using lb
    have hf' : fin = decide (xs.length < ys.length) := by
      rw [hf]
      simp only [List.length_cons, Nat.add_lt_add_iff_right]
    cases ra with
    | cons r rs =>
      cases rb with
      | cons r' rs' =>
        rw [List.zip_cons_cons]
        refine kat_cons (eqAt_reads x y A s _ _ _ _ r r' la'.1 lb'.1 (room_head hu) prog w _ _ ?_)
        cases hx : PyData.eqv x y with
        | true =>
          simp only [okAll, ltAll, hx, if_true] at h hq
          exact kat_yes (katLex_ok xs ys (i + 1) _ _ _ _ rs rs' la'.2 lb'.2 h (room_tail hu) hf' hq)
        | false =>
          simp only [okAll, ltAll, hx, Bool.false_eq_true, if_false] at h hq
          exact kat_no (one_ok r r' la'.1 lb'.1 h (room_head hu) hq)
end
end SK
namespace SK
open PySem PySem.SeqAt PySem.W PySem.Calls PyProof.Rows
section
variable {prog : Program} {w : World} {A : Around} {E : Value → Shared → Prop} {s : Shared}
/-- what firstOfTuple gives, key by key -/
theorem kFirsts : ∀ {vs : List Value} {ds : List PyData}, EachIs (fun v d => ∃ as, Reads s.heap v d as) vs ds → (∀ d ∈ ds, ∃ xs, d = PyData.tuple xs) → ∃ os : List (Option Value), os.length = vs.length ∧
    (∀ (M : Model) (A : Around) (E : Value → Shared → Prop) (Q : List (Option Value) → Shared → Prop), Q os s → wpAny M A (vs.mapM firstOfTuple') Q E s) ∧ ∀ (i : Nat) (o : Option Value), os[i]? = some o → ∃ xs, ds[i]? = some (PyData.tuple xs) ∧ (o = none ↔ xs = [])
  | _, _, .nil, _ => ⟨[], rfl, fun M A E Q h => by rw [List.mapM_nil]; exact wpAny_pure h, fun i o h => by cases h⟩
  | _, _, .cons (a := v) (b := d) (as := vs) (bs := ds) ⟨as, r⟩ t, ht => by
    obtain ⟨os, h1, h2, h3⟩ := kFirsts t fun d hd => ht d (List.mem_cons_of_mem _ hd)
    obtain ⟨xs, rfl⟩ := ht d List.mem_cons_self
    cases r with
    | @tuple a o us n _ _ ho hc hd hr =>
      refine ⟨us[0]? :: os, by rw [List.length_cons, List.length_cons, h1], fun M A E Q h => ?_, fun i o' e => ?_⟩
      · rw [List.mapM_cons]
        refine wpAny_bind ?_
        rw [kas_first_eq]
        refine wpAny_bind (Looks.here (show Looks M s.heap (typeOf (.ref a)) o.cls from (Looks.ld ho).andThen .now) ?_)
        rw [hc, if_neg (by first | decide | simp)]
        refine wpAny_bind (listItems_at ho hd (wpAny_pure ?_))
        exact wpAny_bind (h2 M A E (fun bs s' => wpAny M A (pure (us[0]? :: bs)) Q E s') (wpAny_pure h))
      · cases i with
        | zero =>
          have e' : o' = us[0]? := (Option.some.inj e).symm
          refine ⟨xs, rfl, ?_⟩
          rw [e', ← Array.getElem?_toList]
          cases q : us.toList with
          | nil =>
            rw [q] at hr
            cases hr
            simp
          | cons f fr =>
            rw [q] at hr
            cases hr
            simp
        | succ i => exact h3 i o' e
theorem kFulls : ∀ {vs : List Value} {ds : List PyData}, EachIs (fun v d => ∃ as, Reads s.heap v d as) vs ds → (∀ d ∈ ds, ∃ x r, d = .tuple (x :: r)) → ∃ fs, KatTups s.heap vs fs ∧ fs.length = vs.length ∧ ∀ f ∈ fs, ∃ x r as, PyData.tuple (x :: r) ∈ ds ∧ Reads s.heap f x as :=
  fun e h => each_katTups e h
theorem kKinds {vs : List Value} {ds : List PyData} (e : EachIs (fun v d => ∃ as, Reads s.heap v d as) vs ds) (ht : ∀ d ∈ ds, ∃ xs, d = PyData.tuple xs) (hn : PyData.tuple [] ∈ ds) (h2 : 2 ≤ vs.length) :
    ∃ kd : SortKind, (kd = general' ∨ kd = oneType') ∧ ∀ (E : Value → Shared → Prop) (Q : SortKind → Shared → Prop), Q kd s → wpAny (model prog w) A (keyKind' vs.toArray) Q E s := by
  obtain ⟨os, l1, l2, l3⟩ := kFirsts e ht
  have no : none ∈ os := by
    obtain ⟨i, hi⟩ := List.mem_iff_getElem?.mp hn
    have li : i < os.length := by
      have := (List.getElem?_eq_some_iff.mp hi).1
      rw [l1, e.length]
      exact this
    obtain ⟨xs, e1, e2⟩ := l3 i os[i] (List.getElem?_eq_getElem li)
    rw [hi] at e1
    cases e1
    rw [← e2.mpr rfl]
    exact List.getElem_mem li
  have nall : (os.toArray.all fun x => x.isSome) = false := by
    rw [List.all_toArray]
    exact List.all_eq_false.mpr ⟨none, no, by simp⟩
  refine ⟨if (os.toArray[0]?.bind id).isSome = true then general' else oneType', by split <;> simp, fun E Q hq => ?_⟩
  rw [kat_kind_eq, List.mapM_toArray, map_eq_pure_bind]
  refine wpAny_bind (wpAny_bind (l2 _ _ _ _ (wpAny_pure ?_)))
  rw [if_neg (by rw [nall]; decide)]
  by_cases hg : (os.toArray[0]?.bind id).isSome = true
  · rw [if_pos hg] at hq ⊢
    exact wpAny_pure hq
  · rw [if_neg hg] at hq ⊢
    rw [oneTypeOnly'_eq, List.mapM_toArray, map_eq_pure_bind]
    have hT : ∀ v ∈ vs, Looks (model prog w) s.heap (typeOf v) (Value.type "tuple") := fun v hv => by
      obtain ⟨d, hd, as, r⟩ := e.left v hv
      obtain ⟨xs, rfl⟩ := ht d hd
      exact looks_reads r
    refine wpAny_bind (wpAny_bind (wpAny_bind (kas_mapM (r := Value.type "tuple") _ (fun v hv Q' hq => (hT v hv).here hq) (wpAny_pure ?_))))
    obtain ⟨v₁, r, rfl⟩ : ∃ v₁ r, vs = v₁ :: r := by
      cases vs with
      | nil => exact absurd h2 (by simp)
      | cons a b => exact ⟨a, b, rfl⟩
    have hall : ((List.map (fun _ => Value.type "tuple") (v₁ :: r)).toArray.all fun x => x == Value.type "tuple") = true := by
      simp only [List.all_toArray, List.all_map, List.all_eq_true]
      intro _ _
      rfl
    rw [show (List.map (fun _ => Value.type "tuple") (v₁ :: r)).toArray[0]? = some (Value.type "tuple") by simp]
    simp only [hall, if_true]
    exact wpAny_pure (wpAny_pure hq)
/-- such keys can be sorted -/
theorem sorts_at {vs : List Value} {ds : List PyData} {tok : Tok'} (K : Keys ds tok) (e : EachIs (fun v d => ∃ as, Reads s.heap v d as) vs ds) (hu : ∀ d, d ∈ ds → A.units + d.depth < cLine) : SortsAt prog w A s (kk s.heap ds tok) vs := by
  have room : ∀ {d d' : PyData}, d ∈ ds → A.units + min d.depth d'.depth < cLine := fun {d d'} hd => Nat.lt_of_le_of_lt (Nat.add_le_add_left (Nat.min_le_left _ _) _) (hu d hd)
  refine ⟨fun v hv => ?_, ?_⟩
  · obtain ⟨d, hd, as, r⟩ := e.left v hv
    exact ⟨_, kk_some K.lay hd r⟩
  have asked : ∀ (kd : SortKind), (∀ {da db : PyData} {a b : Value} {as bs : List Addr} {E : Value → Shared → Prop} {Q : Bool → Shared → Prop}, da ∈ ds → db ∈ ds → Reads s.heap a da as → Reads s.heap b db bs → Q (ltD da db) s → wpAny (model prog w) A (keyLt' kd a b) Q E s) → H.LtAt prog w A s (kk s.heap ds tok) kd := fun kd h E x y a b Q ha hb hq => by
    obtain ⟨d, as, hd, ra, rfl⟩ := kk_inv ha
    obtain ⟨d', bs, hd', rb, rfl⟩ := kk_inv hb
    refine h hd hd' ra rb ?_
    rw [K.lt d hd d' hd']
    exact hq
  by_cases hn : PyData.tuple [] ∈ ds
  · by_cases h2 : 2 ≤ vs.length
    · obtain ⟨kd, hk, hr⟩ := kKinds (prog := prog) (w := w) (A := A) e K.tup hn h2
      refine ⟨kd, asked kd fun {da db a b as bs E Q} hd hd' ra rb hq => ?_, fun _ E Q hq => hr E Q hq⟩
      rcases hk with rfl | rfl
      · exact one_ok (f := false) ra rb (K.lay _ hd) (K.lay _ hd') (K.ok _ hd _ hd') (room hd) hq
      · exact one_ok (f := true) ra rb (K.lay _ hd) (K.lay _ hd') (K.ok _ hd _ hd') (room hd) hq
    · exact ⟨general', asked _ fun {da db a b as bs E Q} hd hd' ra rb hq => one_ok (f := false) ra rb (K.lay _ hd) (K.lay _ hd') (K.ok _ hd _ hd') (room hd) hq, fun h => absurd h h2⟩
  · have full : ∀ d ∈ ds, ∃ x r, d = .tuple (x :: r) := fun d hd => by
      obtain ⟨xs, rfl⟩ := K.tup d hd
      cases xs with
      | nil => exact absurd hd hn
      | cons x r => exact ⟨x, r, rfl⟩
    obtain ⟨fs, t1, t2, t3⟩ := kFulls e full
    by_cases h2 : 2 ≤ vs.length
    · obtain ⟨f0, fr, ef⟩ : ∃ f0 fr, fs = f0 :: fr := by
        cases fs with
        | nil =>
          rw [List.length_nil] at t2
          omega
        | cons a b => exact ⟨a, b, rfl⟩
      obtain ⟨x0, r0, as0, m0, q0⟩ := t3 f0 (by rw [ef]; exact List.mem_cons_self)
      refine ⟨tuples' (dataType x0 != Value.type "tuple"), asked _ fun {da db a b as bs E Q} hd hd' ra rb hq => ?_, fun _ E Q hq => ?_⟩
      · have hok := K.ok _ hd _ hd'
        have la := K.lay _ hd
        have lb := K.lay _ hd'
        have hr := room (d' := db) hd
        obtain ⟨xs, rfl⟩ := K.tup _ hd
        obtain ⟨ys, rfl⟩ := K.tup _ hd'
        cases ra with
        | @tuple l o us n _ _ h1 h2 h3 h4 =>
          cases rb with
          | @tuple l' o' ws n' _ _ k1 k2 k3 k4 =>
            have n1 : us.size = xs.length := by simpa using ReadsAll.length _ _ _ h4
            have n2 : ws.size = ys.length := by simpa using ReadsAll.length _ _ _ k4
            exact kat_lt h1 h3 k1 k3 (katLex_ok xs ys 0 _ _ _ _ h4 k4 (by simpa [PyData.canLay0] using la) (by simpa [PyData.canLay0] using lb) (by simpa [okLt] using hok) (by have q := room_in hr; omega) (by rw [n1, n2]) hq)
      · refine kat_kind (T := dataType x0) t1 (by omega) (fun f hf => ?_) (beq_self_eq_true _) hq
        obtain ⟨x, r, as, m1, m2⟩ := t3 f hf
        rw [K.ty x0 r0 x r m0 m1]
        exact looks_reads m2
    · exact ⟨general', asked _ fun {da db a b as bs E Q} hd hd' ra rb hq => one_ok (f := false) ra rb (K.lay _ hd) (K.lay _ hd') (K.ok _ hd _ hd') (room hd) hq, fun h => absurd h h2⟩
end
end SK
namespace SK
open PySem PySem.SeqAt PySem.W PySem.Calls PyProof.Rows
/-- keys that can be sorted, the tokens tell their order -/
structure KeysG (ds : List PyData) (tok : Tok') : Prop where
  lay : ∀ d ∈ ds, d.canLay0 = true
  sorts : ∀ {prog : Program} {w : World} {A : Around} {s : Shared} {vs : List Value}, EachIs (fun v d => ∃ as, Reads s.heap v d as) vs ds → (∀ d, d ∈ ds → A.units + d.depth < cLine) → SortsAt prog w A s (kk s.heap ds tok) vs
theorem Keys.g {ds : List PyData} {tok : Tok'} (K : Keys ds tok) : KeysG ds tok := ⟨K.lay, fun e hu => sorts_at K e hu⟩
/-- keys that are alike, place by place -/
theorem keysG_alike {ds : List PyData} (lay : ∀ d ∈ ds, d.canLay0 = true) (hal : AllAlike ds) (hk : Sortable ds) : KeysG ds keyToks := ⟨lay, fun e hu => SortsAt.data e hal hk hu⟩
end SK
namespace SK
open PySem PySem.SeqAt PySem.W PySem.Calls PyProof.Rows L2
/-! ### sorted(xs, key=f), f a def of the text -/
theorem dp_same {K : PySem.W.Frag} {H H' : Hp} (s : ∀ b o, H b = some o → H' b = some o) : ∀ (d : PyData) (v : V), Dp K H v d → Dp K H' v d
  | .none, _, h => by
    cases h
    exact .non
  | .bool _, _, h => by
    cases h
    exact .bl _
  | .int _, _, h => by
    cases h
    exact .int _
  | .str _, _, h => by
    cases h
    exact .str _
  | .list ds, _, h => by
    cases h with
    | lst h1 h2 =>
      refine .lst ?_ (dp_sames s ds _ h2)
      rcases h1 with (h | ⟨o, h⟩) | h
      · exact .inl (.inl (s _ _ h))
      · exact .inl (.inr ⟨o, s _ _ h⟩)
      · exact .inr h
  | .tuple ds, _, h => by
    cases h with
    | tup h1 h2 =>
      refine .tup ?_ (dp_sames s ds _ h2)
      rcases h1 with (h | ⟨o, h⟩) | h
      · exact .inl (.inl (s _ _ h))
      · exact .inl (.inr ⟨o, s _ _ h⟩)
      · exact .inr h
  | .dict _, _, h => by cases h
where dp_sames {K : PySem.W.Frag} {H H' : Hp} (s : ∀ b o, H b = some o → H' b = some o) : ∀ (ds : List PyData) (vs : List V), DpAll K H vs ds → DpAll K H' vs ds
  | [], _, h => by
    cases h
    exact .nil
  | d :: ds, _, h => by
    cases h with
    | cons h1 h2 => exact .cons (dp_same s d _ h1) (dp_sames s ds _ h2)
/-- the items in the order of their keys -/
def byKey (tok : Tok') (xs : List V) (kz : List PyData) : List V := ((xs.zip kz).mergeSort (sortLe (listOrd itemOrd) false fun b => tok b.2)).map (·.1)
theorem each_zip : ∀ {xs : List V} {vs : List Value} {kz : List PyData}, Vals xs vs → kz.length = xs.length → EachIs (fun v (b : V × PyData) => RelV b.1 v) vs (xs.zip kz)
  | [], _, kz, .nil, _ => by
    rw [List.zip_nil_left]
    exact .nil
  | x :: xs, _, [], _, h => absurd h (by simp)
  | x :: xs, _, k :: kz, .cons r t, h => by
    rw [List.zip_cons_cons]
    exact .cons r (each_zip t (Nat.succ.inj h))
theorem each_snd {R : Value → PyData → Prop} : ∀ {xs : List V} {ks : List Value} {kz : List PyData}, EachIs R ks kz → kz.length = xs.length → EachIs (fun v (b : V × PyData) => R v b.2) ks (xs.zip kz)
  | [], _, [], .nil, _ => .nil
  | _ :: _, _, [], .nil, h => absurd h (by simp)
  | [], _, _ :: _, _, h => absurd h (by simp)
  | x :: xs, _, k :: kz, .cons r t, h => by
    rw [List.zip_cons_cons]
    exact .cons r (each_snd t (Nat.succ.inj h))
theorem vals_each : ∀ {bs : List (V × PyData)} {vs : List Value}, EachIs (fun v (b : V × PyData) => RelV b.1 v) vs bs → Vals (bs.map (·.1)) vs
  | _, _, .nil => .nil
  | _, _, .cons r t => .cons r (vals_each t)
section
variable {X : Cx} {pins : List (Addr × Obj)} {σ : L2.St} {H : Hp} {s : Shared}
theorem each_reads (I : Inv X pins σ H s) : ∀ {kvs : List V} {ks : List Value} {kz : List PyData}, Vals kvs ks → DpAll X.K H kvs kz → EachIs (fun v k => ∃ as, Reads s.heap v k as) ks kz
  | _, _, _, .nil, .nil => .nil
  | _, _, _, .cons r t, .cons h1 h2 => .cons (Dp.reads I _ _ _ h1 r) (each_reads I t h2)
theorem dp_snoc {K : PySem.W.Frag} {v : V} {d : PyData} (h : Dp K H v d) : ∀ {vs : List V} {ds : List PyData}, DpAll K H vs ds → DpAll K H (vs ++ [v]) (ds ++ [d])
  | _, _, .nil => .cons h .nil
  | _, _, .cons a b => .cons a (dp_snoc h b)
theorem dpAll_len {K : PySem.W.Frag} {H : Hp} : ∀ {vs : List V} {ds : List PyData}, DpAll K H vs ds → vs.length = ds.length
  | _, _, .nil => rfl
  | _, _, .cons _ t => congrArg (· + 1) (dpAll_len t)
theorem v_rest {a kS f : Addr} {fd : FuncData} {n : Nat} {sp : Sp} {ps : List Str} {e1 : Nat} {P : PySem.Fin → Shared → Prop} {E : Value → Shared → Prop} {xs : List V} {vs : List Value} {kz : List PyData} {tok : Tok'} {ks0 : Unit}
    (F : FnOk X.prog X.w X.K X.mg X.base CX0 n f fd ps sp) (hr : Room n X.A.in1.in1) (hb : Binds X.K fd ps []) (h1 : ps.length = 1) (K : KeysG kz tok) (I : Inv X pins σ H s) (fa : FpOk X pins H a) (fk : FpOk X pins H kS)
    (nk : s.heap.get? kS = some (seqObj "list" #[] 0)) (na : s.heap.get? a = some (seqObj "list" #[] e1)) (ne : kS ≠ a) (rv : Vals xs vs) (len : kz.length = xs.length) (big : xs.length ≤ sizeLine) (hu : ∀ d, d ∈ kz → X.A.in1.in1.units + d.depth < cLine)
    (call : ∀ (i : Nat) (x : V) (k : PyData), xs[i]? = some x → kz[i]? = some k → ∀ H1, Same H H1 → sp [x] H1 (fun v H2 => Dp X.K H2 v k ∧ Same H1 H2) fun _ _ _ => False)
    (h : ∀ (Hn : Hp) (sn : Shared), Inv X pins σ (upd Hn a (.lst (byKey tok xs kz))) sn → Same H Hn → P (.done (.ret .none)) sn) :
    wpAny (model X.prog X.w) X.A.in1.in1 (ksk_rest a (.ref f) false vs.toArray e1 (.ref kS)) P E s := by
  have lv := rv.length
  let St : Nat → Shared → Prop := fun i s' => ∃ Hi kvs ks c, Inv X pins σ Hi s' ∧ Same H Hi ∧ Hi a = none ∧ Hi kS = none ∧ s'.heap.get? kS = some (seqObj "list" ks c) ∧ s'.heap.get? a = some (seqObj "list" #[] e1) ∧ Vals kvs ks.toList ∧ DpAll X.K Hi kvs (kz.take i)
  have nfs : ∀ b, FpOk X pins H b → b ∉ frs X.stack := fun b fb hb => by
    rcases List.mem_cons.mp (I.stkSub b hb) with z | z
    · exact fb.2.1 z
    · exact fb.2.2.1 z
  unfold ksk_rest
  refine wpAny_bind (wpAny_rule ?_)
  first
    | rw [List.forIn_toArray]
    | (rw [← Array.forIn_toList]; simp only [List.toList_toArray])
    | rw [← Array.forIn_toList]
  refine wpAny_bind (ksk_fold St vs 0 s ⟨H, [], #[], 0, I, fun _ _ e => e, fa.1, fk.1, nk, na, .nil, by rw [List.take_zero]; exact .nil⟩ ?each ?after)
  case each =>
    rintro j v s' hv ⟨Hi, kvs, ks, c, Ii, sm, ha, hk, nk', na', rk, rd⟩
    simp only [Nat.zero_add] at rd ⊢
    have lj : j < xs.length := by
      have := (List.getElem?_eq_some_iff.mp hv).1
      omega
    obtain ⟨u, hu1, rx⟩ := rv.get (i := j) (List.getElem?_eq_getElem lj)
    obtain rfl : u = v := Option.some.inj (hu1.symm.trans hv)
    have hkj : kz[j]? = some kz[j] := List.getElem?_eq_getElem (by omega)
    have run : wpAny (model X.prog X.w) X.A.in1.in1 (PySem.call (.ref f) [u]) (fun r s2 => CE X.stack X.prog X.w Hi s' (fun v H2 => Dp X.K H2 v kz[j] ∧ Same Hi H2) r s2) (fun _ _ => False) s' := by
      refine wpAny_call (codeAny_mono (F.run X.A.in1.in1 X.stack s' Hi ⟨[u], []⟩ ([u] ++ []) [xs[j]] _ _ hr Ii.env0.in1.in1 (hb s' [u] Ii.kIn h1.symm) (.cons rx .nil) (call j _ _ (List.getElem?_eq_getElem lj) hkj Hi sm)) fun r s2 hq => ?_)
      cases r with
      | error e => exact False.elim hq
      | ok fl =>
        cases fl with
        | ret u => exact hq
        | next => exact False.elim hq
        | brk => exact False.elim hq
        | cont => exact False.elim hq
    refine wpAny_bind (wpAny_attempt (wpAny_mono run (fun r s2 he => ?_) fun _ _ z => z.elim))
    obtain ⟨v', H2, os, bare, un, hok, rr, dp, sm2⟩ := he
    have I2 : Inv X pins σ H2 s2 := Ii.call' (ch := []) os un hok bare (by simp)
    have nk2 := un.keep kS _ nk' hk (nfs kS fk) (by simp)
    have na2 := un.keep a _ na' ha (nfs a fa) (by simp)
    have hk2 := un.free kS _ nk' hk (by simp)
    have ha2 := un.free a _ na' ha (by simp)
    try dsimp only
    have sz : ks.size ≤ sizeLine := by
      have q1 : ks.size = kvs.length := by
        rw [← Array.length_toList]
        exact (Vals.length rk).symm
      have q2 : kvs.length = (kz.take j).length := dpAll_len rd
      rw [List.length_take] at q2
      omega
    have szj : ks.size < sizeLine + 1 := Nat.lt_succ_of_le sz
    have same := Heap.SameBut.update s2.heap kS (Obj.mapSeq (·.push r))
    obtain ⟨c2, hc2⟩ : ∃ c2, (s2.heap.update kS (Obj.mapSeq (·.push r))).get? kS = some (seqObj "list" (ks.push r) c2) := ⟨_, get?_update_seq nk2 (·.push r)⟩
    refine wpAny_bind (listUpdate_at nk2 rfl ?_ sz (Nat.le_trans (Nat.le_of_eq (Array.size_push ..)) (Nat.succ_le_succ sz)))
    refine wpAny_pure ⟨rfl, H2, kvs ++ [v'], ks.push r, c2, I2.turned (t' := s2.toks) (fun b o hb e => (same.2 b hb).trans e) hk2 fk.2.1 fk.2.2.2.1 fk.2.2.2.2.1 fk.2.2.2.2.2, sm.trans sm2, ha2, hk2, hc2, (same.2 a ne.symm).trans na2, ?_, ?_⟩
    · rw [show (ks.push r).toList = ks.toList ++ [r] by simp]
      exact Vals.append rk (.cons rr .nil)
    · rw [show kz.take (j + 1) = kz.take j ++ [kz[j]] by rw [List.take_add_one, hkj]; simp]
      exact dp_snoc dp (dp_same.dp_sames sm2 _ _ rd)
  case after =>
    rintro s' ⟨Hn, kvs, ks, c, In, sm, ha, hk, nk', na', rk, rd⟩
    rw [show kz.take (0 + vs.length) = kz from List.take_of_length_le (by omega)] at rd
    have all := each_reads In rk rd
    have sz : ks.size = vs.length := by
      have q := all.length
      rw [Array.length_toList] at q
      omega
    try dsimp only
    refine wpAny_bind (listItems_at nk' rfl ?_)
    refine keyH_end (κ := kk s'.heap kz tok) (h₁ := hideAll s'.heap [kS]) (fun b o _ q => of_hideAll _ q) (hideAll_none _ (List.mem_singleton.mpr rfl)) nk' na' ne (K.sorts all hu) sz (by omega) fun g tk c3 keep hg => ?_
    have out : EachIs (fun v (b : V × PyData) => RelV b.1 v) (sortVals (kk s'.heap kz tok) false ks.toList vs) ((xs.zip kz).mergeSort (sortLe (listOrd itemOrd) false fun b => tok b.2)) :=
      sortVals_each (κ := kk s'.heap kz tok) (fun b : V × PyData => tok b.2) (each_zip rv len) (each_snd (R := fun v d => (kk s'.heap kz tok).keyOf v = some (tok d)) ((each_mem all).mono fun v d q => by
        obtain ⟨⟨as, r⟩, hd⟩ := q
        exact kk_some K.lay hd r) len)
    have ol : (byKey tok xs kz).length ≤ sizeLine := by
      unfold byKey
      rw [List.length_map, List.length_mergeSort, List.length_zip]
      omega
    have kp : ∀ b o, b ≠ a → b ≠ kS → s'.heap.get? b = some o → g.get? b = some o := fun b o x y e => keep b o x (hideAll_get _ e (by simpa using y))
    have tr : ∀ b u, Hn b = some u → b ≠ a ∧ b ≠ kS := fun b u e => ⟨(fun z => by
      rw [z, ha] at e
      cases e), (fun z => by
      rw [z, hk] at e
      cases e)⟩
    have over : ∀ b u, Hn b = some u → upd Hn a (.lst (byKey tok xs kz)) b = some u := fun b u e => by
      rw [upd_ne (tr b u e).1]
      exact e
    refine h Hn _ (In.call (ch := [a, kS]) (g' := s'.gens) (d' := s'.drawn) (t' := tk) (h' := g) ⟨fun b o e n _ x => kp b o (fun z => x (by simp [z])) (fun z => x (by simp [z])) e, fun b o e n _ x => ⟨o.slots, kp b o (fun z => x (by simp [z])) (fun z => x (by simp [z])) e⟩,
      fun b o e n x => by rw [upd_ne (fun z => x (by simp [z]))]; exact n, fun b o e x => ⟨o, kp b o (fun z => x (by simp [z])) (fun z => x (by simp [z])) e⟩, fun b xs e => over b _ e, fun b o u e => over b _ e, fun b ps e => ⟨#[], by rw [Array.append_empty]; exact over b _ e⟩⟩ (fun b u e => ?_) In.bare fun b hb' => ?_) sm
    · by_cases z : b = a
      · subst z
        rw [upd_same] at e
        cases e
        exact ⟨ol, _, c3, vals_each out, hg⟩
      · rw [upd_ne z] at e
        exact (In.hok b u e).stay (fun c v hc q => by
          rcases hc with rfl | hc
          · exact kp _ _ (tr _ _ e).1 (tr _ _ e).2 q
          · exact kp _ _ (tr _ _ hc).1 (tr _ _ hc).2 q) (fun c q => over c _ q) fun c ys q => over c _ q
    · rcases List.mem_cons.mp hb' with rfl | hb'
      · exact ⟨fa.2.2.2.1, fa.2.1, fa.2.2.2.2.1, fa.2.2.2.2.2⟩
      · obtain rfl := List.mem_singleton.mp hb'
        exact ⟨fk.2.2.2.1, fk.2.1, fk.2.2.2.2.1, fk.2.2.2.2.2⟩
/-- the reading of sorted(xs, key=f) -/
def rSortF (K : PySem.W.Frag) (f : Addr) (sp : Sp) : List V → List V → Hp → VK → Prop := fun vs zs H Q => ∃ (l : Addr) (xs : List V) (kz : List PyData) (tok : Tok'), vs = [.ref l] ∧ zs = [.ref f] ∧ SqL K H l xs ∧ kz.length = xs.length ∧ KeysG kz tok ∧ (∀ d ∈ kz, d.depth ≤ 60) ∧
  (∀ (i : Nat) (x : V) (k : PyData), xs[i]? = some x → kz[i]? = some k → ∀ H1, Same H H1 → sp [x] H1 (fun v H2 => Dp K H2 v k ∧ Same H1 H2) fun _ _ _ => False) ∧
  ∀ (p : Addr) (H1 : Hp), H p = none → Same H H1 → H1 p = some (.lst (byKey tok xs kz)) → Q (.ref p) H1
theorem cr_sortF {f : Addr} {fd : FuncData} {n : Nat} {sp : Sp} {ps : List Str} (F : FnOk X.prog X.w X.K X.mg X.base CX0 n f fd ps sp) (hr : Room (n + 2) X.A) (hb : Binds X.K fd ps []) (h1 : ps.length = 1) :
    CallRK X (.builtin "sorted") [Str.ofString "key"] (rSortF X.K f sp) := by
  intro pins s σ H vs zs us ws Q I r rz h
  obtain ⟨l, xs, kz, tok, rfl, rfl, hs, len, K, dep, call, q⟩ := h
  obtain rfl := Vals.ref1 r
  obtain rfl := Vals.ref1 rz
  obtain ⟨its, rv, hl, big⟩ := I.list hs
  have lv := rv.length
  refine sorted_of_sort hl.isList (by omega) (ksk_s1 _ _) (fun _ => ksk_l1 _ _) fun E' => ?_
  show wpAny _ _ (Builtin.«list.sort» ⟨[.ref _], [(Str.ofString "key", .ref f)]⟩) _ _ _
  rw [ksk_t1]
  have ho := copyHeap_at s.heap its
  have la : s.heap.objs.size + 1 < (copyHeap s.heap its).objs.size := Heap.lt_size ho
  obtain ⟨e1, ho1⟩ : ∃ e1, ((copyHeap s.heap its).update (s.heap.objs.size + 1) (Obj.mapSeq fun _ => (#[] : Array Value))).get? (s.heap.objs.size + 1) = some (seqObj "list" #[] e1) := ⟨_, get?_update_seq ho fun _ => #[]⟩
  unfold ksk_tree
  refine wpAny_bind (listItems_at ho rfl (wpAny_bind (listUpdate_at ho rfl ?_ (by rw [List.size_toArray]; omega) (Nat.zero_le _))))
  refine wpAny_bind (seqEpoch_at ho1 rfl (wpAny_bind (wpAny_newTuple ?_ (by show its.length ≤ _; omega))))
  refine wpAny_bind (wpAny_newList ?_ (Nat.zero_le _))
  refine wpAny_holding ?_
  have szS : (((copyHeap s.heap its).update (s.heap.objs.size + 1) (Obj.mapSeq fun _ => (#[] : Array Value))).push (seqObj "tuple" its.toArray 0)).objs.size = (copyHeap s.heap its).objs.size + 1 := by rw [size_push', Heap.size_update]
  have old : ∀ b o, s.heap.get? b = some o → (((((copyHeap s.heap its).update (s.heap.objs.size + 1) (Obj.mapSeq fun _ => (#[] : Array Value))).push (seqObj "tuple" its.toArray 0)).push (seqObj "list" #[] 0))).get? b = some o := fun b o e => sorting_copy_old e
  have fra : H (s.heap.objs.size + 1) = none := I.hok.fresh (Nat.le_succ _)
  have n3 := line63
  refine v_rest (ks0 := ()) (n := n) F hr.in1.in1 hb h1 K (I.kept (t' := s.toks) old) (I.fpOk (Nat.le_succ _) fra)
    (I.fpOk (b := (((copyHeap s.heap its).update (s.heap.objs.size + 1) (Obj.mapSeq fun _ => (#[] : Array Value))).push (seqObj "tuple" its.toArray 0)).objs.size) (by rw [szS]; omega) (I.hok.fresh (by rw [szS]; omega)))
    (Heap.get?_push_size _ rfl) (Heap.get?_push_of_some _ (Heap.get?_push_of_some _ ho1)) (by rw [szS]; exact Nat.ne_of_gt (Nat.lt_succ_of_lt la)) rv len big (fun d hd => ?_) call fun Hn sn In sm => ⟨rfl, ?_⟩
  · have h2 := hr.un
    have h3 := dep d hd
    show X.A.units + 1 + 1 + d.depth < cLine
    omega
  · refine ⟨.ref _, _, In, rfl, q _ _ fra (fun b o e => ?_) upd_same⟩
    rw [upd_ne (ne_of_none e fra)]
    exact sm b o e
end
end SK
namespace DcT
open PySem PySem.Spec PyProof.Rows L2
/-! ### {k: v for target in iter if ..} whose keys are tuples of ints and texts; also as x = {..} -/
section
variable {X : Cx}
theorem setT {pins : List (Addr × Obj)} {σ : L2.St} {H : Hp} {s : Shared} {E : Value → Shared → Prop} {D b : Addr} {kvs : List (List Key × V)} {k : List Key} {v : V} {r : Value} {Q : Unit → Shared → Prop} (hu : X.A.units + 1 < cLine) (I : Inv X pins σ H s) (hD : H D = some (.dT kvs)) (hz : kvs.length < sizeLine)
    (hk : H b = some (.tup (k.map kV))) (rv : RelV v r) (h : ∀ s', Inv X pins σ (upd H D (.dT (putK kvs k v))) s' → Q () s') : wpAny (model X.prog X.w) X.A (dictSet D (.ref b) r) Q E s := by
  obtain ⟨z, ns, xs, rel, dd⟩ := dt_of I.hok hD
  have le : (putK kvs k v).length ≤ sizeLine := by have := length_putK kvs k v; omega
  refine wpAny_dictSet_heap (hsz := by rw [← Paired.length rel]; exact z) (Nat.lt_of_succ_lt hu) (key_of I.hok hk) dd fun h' d2 same => h _ ?_
  obtain ⟨q, es, ep, e1, e2, e3, e4, _, e5⟩ := d2
  refine d_write I (by rw [hD]; exact True.intro) same ⟨q, e1⟩ ⟨le, ns, _, (rel.put k hk rv).keeps fun c ys ec => ?_, q, es, ep, e1, e2, e3, e4, e5⟩
  rw [upd_ne (ne_of ec hD (fun z => nomatch z))]
  exact ec
def tD (wi : TI) (g : TG) (tt : TT) (tk tv : TE) (vs : List Nat) : TE := fun σ H Q => wi σ H fun J H1 => ∀ D, H1 D = none → ∃ W : Nat → Nat → Hp → Prop, (∃ m, W 0 m (upd H1 D (.dT []))) ∧ ∀ i m H, W i m H →
  (J.stop i H ∧ Q (.ref D) H) ∨ (J.go i H ∧ ∃ Nx : Hp → Prop, (∀ H', Nx H' → ∃ m', m' < m ∧ W (i + 1) m' H') ∧ ∀ x H', J.yld i H x H' → g x (wipe σ vs) H' fun σ2 H2 => wipe σ2 vs = wipe σ vs ∧ tt σ2 H2 fun b H3 =>
    if b = true then tk σ2 H3 fun y H4 => tv σ2 H4 fun z H5 => ∃ kvs k c, y = .ref c ∧ H5 c = some (.tup (k.map kV)) ∧ H5 D = some (.dT kvs) ∧ kvs.length < sizeLine ∧ Nx (upd H5 D (.dT (putK kvs k z))) else Nx H3)
theorem core {pins : List (Addr × Obj)} {s : Shared} {σ : L2.St} {H : Hp} {Q : VK} {kx vx tg iter : Expr} {ifs : List Expr} {scope : Scope} {own : List (Str × Nat)} {pos pos' : Pos} {wi : TI} {g : TG} {tt : TT} {tk tv : TE} {use : Option (Value → Sem Unit)} {Qf : Value → Shared → Prop}
    (hu : X.A.units + 1 < cLine) (hc : X.calm = true) (hN : X.N.Nodup) (I : Inv X pins σ H s) (hi : PI X tg iter wi) (ok : BlkOk X.N X.env.scope scope own)
    (hg : ∀ s H C cl fp, PG (X.blk s H scope (compEnvC scope cl C X.env) fp) tg g) (ht : ∀ s H C cl fp, PTs (X.blk s H scope (compEnvC scope cl C X.env) fp) ifs tt)
    (hk : ∀ s H C cl fp, PE (X.blk s H scope (compEnvC scope cl C X.env) fp) kx tk) (he : ∀ s H C cl fp, PE (X.blk s H scope (compEnvC scope cl C X.env) fp) vx tv) (hs : ∀ x, foldedSetIterable iter X.env x = pure x)
    (h : tD wi g tt tk tv (own.map (·.2)) σ H Q)
    (end_ : ∀ D C s' m H', Inv X pins σ H' s' → Q (.ref D) H' → s'.heap.Ns C m → FpOk X pins H' C → compPost (model X.prog X.w) X.A X.xe use Qf (.ref D) C (.ok .next) s') :
    wpAny (model X.prog X.w) X.A (comprehension (.DictComp kx vx [⟨tg, iter, ifs, 0⟩] scope pos) scope X.env pos' newDict false (eval iter X.env) use) Qf X.xe s := by
  have clos : ∀ y ∈ scope.names, y.2 = .free → ∃ c, X.env.cells.lookup y.1 = some c := fun y hy e =>
    (ok.free y hy e).elim (fun k => I.ok.has _ (.inl k)) fun k => I.ok.has _ (.inr k)
  refine wpAny_comprehension_free (use := use) rfl hs (closure_ok clos) ok.kind (fun y hy e => by rw [ok.uniq y hy, e]) (thn (hi.run pins s σ H _ I h) fun xv s1 hx => thn hx fun itv s2 h2 => ?_)
  obtain ⟨it, fp, tn, J, H2, e, I2, T, st2, f2, q⟩ := h2
  subst e
  refine wpAny_newObj_type (newEnv_comp ?_)
  obtain ⟨W, ⟨m0, w0⟩, turn⟩ := q s2.heap.objs.size (I2.hok.fresh (Nat.le_refl _))
  generalize hH3 : upd H2 s2.heap.objs.size (.dT []) = H3 at w0
  have push : ∀ b o, s2.heap.get? b = some o → (s2.heap.push { cls := .type "dict", data := .dict #[] }).get? b = some o := fun b o e => Heap.get?_push_of_some _ e
  have I3 : Inv X pins σ H3 ({ s2 with heap := s2.heap.push { cls := .type "dict", data := .dict #[] } } : Shared) := by
    rw [← hH3]
    exact I2.laid (t' := s2.toks) push (Nat.le_refl _) (dt_empty s2.heap I2.big)
  have f3 : ∀ b ∈ fp, FpOk X pins H3 b ∧ b < (s2.heap.push ({ cls := .type "dict", data := .dict #[] } : Obj)).objs.size := fun b hb => by
    obtain ⟨o, e, _⟩ := T.obj _ _ st2 b hb
    have lt : b < s2.heap.objs.size := Heap.lt_size e
    refine ⟨⟨?_, (f2 b hb).2⟩, by rw [Heap.size_push]; exact Nat.lt_succ_of_lt lt⟩
    rw [← hH3, upd_ne (Nat.ne_of_lt lt)]
    exact (f2 b hb).1
  generalize hs3 : ({ s2 with heap := s2.heap.push { cls := .type "dict", data := .dict #[] } } : Shared) = s3 at I3
  have h3 : s3.heap = s2.heap.push { cls := .type "dict", data := .dict #[] } := by rw [← hs3]
  rw [← h3] at f3
  have st3 : tn 0 s3.heap := T.keep _ _ _ st2 fun b _ o e => by rw [h3]; exact push b o e
  have I4 := block_start I3 ok hN f3
  generalize hcl : cellsFrom (s3.heap.objs.size + 1) scope.names (cloFrom X.env.cells scope.names []) = cl at I4
  have pg := hg s3 H3 s3.heap.objs.size cl fp
  have pt := ht s3 H3 s3.heap.objs.size cl fp
  have pk := hk s3 H3 s3.heap.objs.size cl fp
  have pe := he s3 H3 s3.heap.objs.size cl fp
  show codeAny _ _ (.compStart (.DictComp kx vx [⟨tg, iter, ifs, 0⟩] scope pos) 0 (.ref it) (.ref s2.heap.objs.size) (compEnvC scope cl s3.heap.objs.size X.env)) (compPost (model X.prog X.w) X.A X.xe use Qf (.ref s2.heap.objs.size) s3.heap.objs.size) { s3 with heap := pushCells (s3.heap.push { cls := .type "dict", data := .dict #[] }) scope.names }
  generalize hD : s2.heap.objs.size = D at turn
  generalize hce : compEnvC scope cl s3.heap.objs.size X.env = ce at I4 pg pt pk pe ⊢
  have lo : ce.locals = s3.heap.objs.size := by rw [← hce]; rfl
  generalize hs4 : ({ s3 with heap := pushCells (s3.heap.push { cls := .type "dict", data := .dict #[] }) scope.names } : Shared) = s4 at I4 ⊢
  have st4 : tn 0 s4.heap := T.keep _ _ _ st3 fun b _ o e => by rw [← hs4]; exact pushCells_keeps _ _ _ _ (Heap.get?_push_of_some _ e)
  have fpo : ∀ {σ' : L2.St} {H' : Hp} {s' : Shared}, Inv (X.blk s3 H3 scope ce fp) [] σ' H' s' → (∀ b ∈ fp, H' b = none) → ∀ b ∈ fp, FpOk (X.blk s3 H3 scope ce fp) [] H' b := fun {σ' H' s'} I' hn b hb =>
    ⟨hn b hb, (I'.ok.exf b hb).1, I'.ok.exfs b hb, .inl hb, fun x c e => (I'.ok.exf b hb).2 x c e, fun p hp => absurd (show p ∈ ([] : List (Addr × Obj)) ++ [] from hp) (by simp)⟩
  refine codeAny_compStart_dict ?_ (T.self X.A 0 _ _ _ st4 ?_)
  all_goals
    refine compLoop_anyD (fun n s' => ∃ i H', Inv (X.blk s3 H3 scope ce fp) [] (wipe σ (own.map (·.2))) H' s' ∧ tn i s'.heap ∧ (∀ b ∈ fp, H' b = none) ∧ W i n H') ?_ m0 ⟨0, H3, I4, st4, fun b hb => (f3 b hb).1.1, w0⟩
    rintro n s5 ⟨i, H5, I5, st5, n5, w5⟩
    rcases turn i n H5 w5 with ⟨stop, qq⟩ | ⟨go, Nx, more, step⟩
    · refine thnF (T.done (X.blk s3 H3 scope ce fp) rfl rfl rfl hc i [] s5 _ H5 (fun _ _ => False) I5 (fpo I5 n5) st5 stop) fun r s6 ⟨hr, I6⟩ => ?_
      subst hr
      have I7 : Inv X pins σ H5 s6 := I3.call' (ch := fp) I6.os I6.base I6.hok I6.bare fun b hb => ⟨(f3 b hb).1.2.2.2.1, (f3 b hb).1.2.1, (f3 b hb).1.2.2.2.2.1, (f3 b hb).1.2.2.2.2.2⟩
      obtain ⟨m, hn, _⟩ := I6.loc
      have hn : s6.heap.Ns ce.locals m := hn
      have nC : H5 ce.locals = none := I6.free
      rw [lo] at hn nC
      exact end_ D s3.heap.objs.size s6 m H5 I7 qq hn (I3.fpOk (Nat.le_refl _) nC)
    · refine thnF (T.item (X.blk s3 H3 scope ce fp) rfl rfl rfl hc i [] s5 _ H5 (fun _ _ => False) I5 (fpo I5 n5) st5 go) fun r s6 ⟨u, hr, h6⟩ => ?_
      subst hr
      refine thnF h6 fun _ s7 ⟨x, H7, I7, r7, y7, st7, n7⟩ => ?_
      refine thnF (pg.run _ s7 _ H7 x u _ (I7.pinned (fpo I7 n7) (T.obj _ _ st7)) r7 (step x H7 y7)) fun _ s8 ⟨σ8, H8, I8, hw8, q8⟩ => ?_
      refine thnF (pt.run _ s8 σ8 H8 _ I8 q8) fun b s9 ⟨H9, I9, q9⟩ => ?_
      have back : ∀ {s' : Shared} {H' : Hp}, Inv (X.blk s3 H3 scope ce fp) ([] ++ pinsAt fp s7.heap) σ8 H' s' → Nx H' → ∃ m, m < n ∧ ∃ i H', Inv (X.blk s3 H3 scope ce fp) [] (wipe σ (own.map (·.2))) H' s' ∧ tn i s'.heap ∧ (∀ b ∈ fp, H' b = none) ∧ W i m H' := fun {s' H'} I' nx => by
        obtain ⟨m', lt, w'⟩ := more H' nx
        have held : ∀ b ∈ fp, ∀ o, s7.heap.get? b = some o → s'.heap.get? b = some o ∧ H' b = none := fun b hb o e =>
          let z := I'.pin (b, o) (List.mem_append_right _ (List.mem_append_right _ (mem_pinsAt hb e)))
          ⟨z.1, z.2.1⟩
        refine ⟨m', lt, i + 1, H', (I'.unpinned (pins := [])).weak (by rw [← hw8, wipe_length]) (fun j v e => ?_), T.keep _ _ _ st7 fun b hb o e => (held b hb o e).1, fun b hb => ?_, w'⟩
        · rw [← hw8] at e
          exact (wipe_some e).1
        · obtain ⟨o, e, _⟩ := T.obj _ _ st7 b hb
          exact (held b hb o e).2
      cases b with
      | false =>
        simp only [Bool.false_eq_true, if_false] at q9 ⊢
        exact back I9 q9
      | true =>
        simp only [if_true] at q9 ⊢
        refine thnF (pk.run _ s9 σ8 H9 _ I9 q9) fun z s10 ⟨yk, H10, I10, r10, q10⟩ => ?_
        refine thnF (pe.run _ s10 σ8 H10 _ I10 q10) fun z2 s11 ⟨yv, H11, I11, r11, kvs, k, c, ek, hc11, hD11, hz11, nx⟩ => ?_
        subst ek
        obtain rfl : z = Value.ref c := r10
        exact setT (X := X.blk s3 H3 scope ce fp) hu I11 hD11 hz11 hc11 r11 fun s12 I12 => back I12 nx
/-- as a value -/
theorem pe_dcT {kx vx tg iter : Expr} {ifs : List Expr} {scope : Scope} {own : List (Str × Nat)} {pos : Pos} {wi : TI} {g : TG} {tt : TT} {tk tv : TE} (hu : X.A.units + 1 < cLine) (hc : X.calm = true) (hN : X.N.Nodup) (hi : PI X tg iter wi) (ok : BlkOk X.N X.env.scope scope own)
    (hg : ∀ s H C cl fp, PG (X.blk s H scope (compEnvC scope cl C X.env) fp) tg g) (ht : ∀ s H C cl fp, PTs (X.blk s H scope (compEnvC scope cl C X.env) fp) ifs tt)
    (hk : ∀ s H C cl fp, PE (X.blk s H scope (compEnvC scope cl C X.env) fp) kx tk) (he : ∀ s H C cl fp, PE (X.blk s H scope (compEnvC scope cl C X.env) fp) vx tv) (hs : ∀ x, foldedSetIterable iter X.env x = pure x := by intro _; rfl) :
    PE X (.DictComp kx vx [⟨tg, iter, ifs, 0⟩] scope pos) (tD wi g tt tk tv (own.map (·.2))) := by
  refine ⟨fun pins s σ H Q I h => ?_⟩
  rw [arm_eval_DictComp]
  refine core hu hc hN I hi ok hg ht hk he hs h fun D C s' m H' I' q hn f => ⟨m, hn, fun h'' sb => ?_⟩
  obtain ⟨f0, f1, f2, f3, f4, f5⟩ := f
  exact ⟨.ref D, H', I'.turned (t' := s'.toks) (fun b o hb e => (sb.2 b hb).trans e) f0 f1 f3 f4 f5, rfl, q⟩
/-- x = {..} on one line, x a local -/
theorem ps_setDcT {i : Nat} {y : Str} {py : Pos} {kx vx tg iter : Expr} {ifs : List Expr} {scope : Scope} {own : List (Str × Nat)} {pos spos : Pos} {wi : TI} {g : TG} {tt : TT} {tk tv : TE} (hu : X.A.units + 1 < cLine) (hc : X.calm = true) (hN : X.N.Nodup) (hy : X.N[i]? = some y) (hyl : X.env.scope.names.lookup y = some .local)
    (hsw : swapsWith (.DictComp kx vx [⟨tg, iter, ifs, 0⟩] scope pos) (some (.Name y py)) spos.line X.env = pure true) (hi : PI X tg iter wi) (ok : BlkOk X.N X.env.scope scope own)
    (hg : ∀ s H C cl fp, PG (X.blk s H scope (compEnvC scope cl C X.env) fp) tg g) (ht : ∀ s H C cl fp, PTs (X.blk s H scope (compEnvC scope cl C X.env) fp) ifs tt)
    (hk : ∀ s H C cl fp, PE (X.blk s H scope (compEnvC scope cl C X.env) fp) kx tk) (he : ∀ s H C cl fp, PE (X.blk s H scope (compEnvC scope cl C X.env) fp) vx tv) (hs : ∀ x, foldedSetIterable iter X.env x = pure x := by intro _; rfl) :
    PS X (.Assign [.Name y py] (.DictComp kx vx [⟨tg, iter, ifs, 0⟩] scope pos) spos) (tAsg (tD wi g tt tk tv (own.map (·.2))) (gName i)) := by
  refine ⟨fun pins s σ H D I h => ?_⟩
  rw [exec_Assign_Name_used _ _ _ _ hsw]
  refine wpAny_bind (wpAny_standAt (wpAny_bind ?_))
  show wpAny _ X.A (do let _ ← comprehension (.DictComp kx vx [⟨tg, iter, ifs, 0⟩] scope pos) scope X.env (firstIterPos [⟨tg, iter, ifs, 0⟩] pos) newDict false (eval iter X.env) (some (assign (.Name y py) X.env))) _ _ s
  have h : tD wi g tt tk tv (own.map (·.2)) σ H (fun x H1 => gName i x σ H1 D.nx) := h
  refine wpAny_bind (thn (core (Qf := fun _ s' => SP X pins D .next s') hu hc hN I hi ok hg ht hk he hs h fun L C s' m H' I' q hn f => ?_) fun _ s' hq => wpAny_pure (wpAny_pure hq))
  show wpAny _ _ (assign (.Name y py) X.env (.ref L)) _ _ _
  refine wpAny_assign_Name (store_ok2 (v := V.ref L) I' hN hy (.inl hyl) rfl (fun s2 I2 ⟨a, sb, ha⟩ => ?_) (.inr hyl))
  obtain ⟨f0, f1, f2, f3, f4, f5⟩ := f
  refine ⟨m, hn.sameBut sb (fun e => ha.elim (fun z => f1 (e.trans z)) fun z => f4 y a z e.symm), fun h3 sb3 => ?_⟩
  exact ⟨_, H', I2.turned (t' := s2.toks) (fun b o hb e => (sb3.2 b hb).trans e) f0 f1 f3 f4 f5, q⟩
theorem sw_dict {kx vx : Expr} {gs : List Comprehension} {scope : Scope} {pos py : Pos} {y : Str} {l : Nat} {env : Env} (hk : env.scope.kind = .function) (hy : env.scope.names.lookup y = some .local) (hl : (py.line == pos.line) = true)
    (ha : (scope.names.any fun (n, k) => n == y && (k == .local || k == .cell)) = false) : swapsWith (.DictComp kx vx gs scope pos) (some (.Name y py)) l env = pure true := by
  have ky : env.kindOf y = some .local := hy
  have hb : env.blockKind = .function := by unfold Env.blockKind; rw [hk]; rfl
  unfold swapsWith
  simp only [hb, ky, ha, Expr.pos, hl]
  rfl
/-- over a list that stays -/
theorem dcT_list {K : PySem.W.Frag} {a : Addr} {xs : List V} {g : TG} {tt : TT} {tk tv : TE} {vs : List Nat} {σ : L2.St} {H1 : Hp} {D : Addr} {Qd : Hp → Prop} (Pv : Nat → Hp → Prop) (h0 : Pv 0 (upd H1 D (.dT []))) (hl : ∀ i H, i ≤ xs.length → Pv i H → SqL K H a xs)
    (hs : ∀ i x H, xs[i]? = some x → Pv i H → g x (wipe σ vs) H fun σ2 H2 => wipe σ2 vs = wipe σ vs ∧ tt σ2 H2 fun b H3 =>
      if b = true then tk σ2 H3 fun y H4 => tv σ2 H4 fun z H5 => ∃ kvs k c, y = .ref c ∧ H5 c = some (.tup (k.map kV)) ∧ H5 D = some (.dT kvs) ∧ kvs.length < sizeLine ∧ Pv (i + 1) (upd H5 D (.dT (putK kvs k z))) else Pv (i + 1) H3) (hd : ∀ H, Pv xs.length H → Qd H) :
    ∃ W : Nat → Nat → Hp → Prop, (∃ m, W 0 m (upd H1 D (.dT []))) ∧ ∀ i m H, W i m H →
      ((Itl K a).stop i H ∧ Qd H) ∨ ((Itl K a).go i H ∧ ∃ Nx : Hp → Prop, (∀ H', Nx H' → ∃ m', m' < m ∧ W (i + 1) m' H') ∧ ∀ x H', (Itl K a).yld i H x H' → g x (wipe σ vs) H' fun σ2 H2 => wipe σ2 vs = wipe σ vs ∧ tt σ2 H2 fun b H3 =>
        if b = true then tk σ2 H3 fun y H4 => tv σ2 H4 fun z H5 => ∃ kvs k c, y = .ref c ∧ H5 c = some (.tup (k.map kV)) ∧ H5 D = some (.dT kvs) ∧ kvs.length < sizeLine ∧ Nx (upd H5 D (.dT (putK kvs k z))) else Nx H3) := by
  refine ⟨fun i m H => m = xs.length - i ∧ i ≤ xs.length ∧ Pv i H, ⟨xs.length, by simp, Nat.zero_le _, h0⟩, ?_⟩
  rintro i m H ⟨rfl, hi, p⟩
  have q := hl i H hi p
  rcases Nat.lt_or_ge i xs.length with lt | ge
  · refine .inr ⟨⟨xs, xs[i], q, by simp [lt]⟩, Pv (i + 1), fun H' p' => ⟨xs.length - (i + 1), by omega, rfl, lt, p'⟩, fun x H' y => ?_⟩
    obtain ⟨e, y⟩ := y
    subst e
    exact hs i x _ (y xs q) p
  · obtain rfl : i = xs.length := by omega
    exact .inl ⟨⟨xs, q, Nat.le_refl _⟩, hd H p⟩
end
end DcT
namespace L2
open PySem PySem.Spec PyProof.Rows
/-- a callee that may raise, called where it doesn't -/
theorem passN {X : Cx} {C : CXT} (h : C = L2.CX X.prog X.w) : Passes C X (fun _ _ _ => False) := by
  subst h
  exact passes_call (W := fun _ _ _ _ => False) takes0 (fun _ _ _ _ h => h)
section
variable {X : Cx} {CX : CXT} {k : Nat} {f C : Addr} {fd : FuncData} {ps : List Str} {sp : Sp} {E : St → XK} {x m : Str} {p pos apos : Pos} {e o : Expr} {es : List Expr} {ta : TE} {t : TA}
/-- o.m(e, ..), what it may raise told at the slots -/
def tMethX (C : Addr) (m : Str) (sp : Sp) (E : St → XK) (ta : TE) (t : TA) : TE := fun σ H Q => ta σ H fun x H1 => ∃ a dx fs, x = .ref a ∧ H1 a = some (.ins C dx fs) ∧ fs.lookup m = none ∧ t σ H1 fun vs H2 => sp (.ref a :: vs) H2 Q (E σ)
theorem pe_methX {pl : Sem Bool} (he : PE X o ta) (c : Cls X.K C) (hm : Meth X.K C m f) (F : FnOk X.prog X.w X.K X.mg X.base CX k f fd ps sp) (hr : Room k X.A) (hb : Binds X.K fd ps []) (hx : ∀ σ, PassesAt CX X σ (E σ)) (ha : PA X (e :: es) t)
    (hst : starEach (e :: es) X.env = (false, eval e X.env) :: starEach es X.env := by rfl) (hpl : (backTo pos (starEach es X.env)).any (·.1) = false := by rfl)
    (ht : eval (.Call (.Attribute o m apos) (e :: es) [] pos) X.env = (do
      let ov ← eval o X.env
      standAt apos.atName
      let (f, first) ← holding [ov] (getMethod ov m pl)
      callWith pos f first (backTo pos (starEach (e :: es) X.env)) (backToKw pos (keywordEach [] X.env))) := by rfl) :
    PE X (.Call (.Attribute o m apos) (e :: es) [] pos) (tMethX C m sp E ta t) := by
  refine ⟨fun pins s σ H Q I h => ?_⟩
  refine PySem.W.methodCall_KW (pl := pl) (thn (he.run pins s σ H _ I h) fun u s1 ⟨x, H1, I1, rx, a, dx, fs, ex, ea, l, q⟩ => ?_) ht
  subst ex
  obtain rfl : u = Value.ref a := rx
  refine getmeth_ok I1 ea c hm l ?_
  refine PySem.W.callWith_K (first := [.ref a]) (h₀ := X.base) I.ok.mod.kin hm.kp (thn (ha.run pos pins s1 σ H1 _ I1 q) fun us s2 ⟨vs, H2, I2, r, q2⟩ => ⟨I2.kIn, ?_⟩) hst hpl
  exact run_fnS (us := .ref a :: us) (vs := .ref a :: vs) F hr hb (hx σ) I2 (.cons rfl r) q2
theorem pe_methX0 {pl : Sem Bool} (he : PE X o ta) (c : Cls X.K C) (hm : Meth X.K C m f) (F : FnOk X.prog X.w X.K X.mg X.base CX k f fd ps sp) (hr : Room k X.A) (hb : Binds X.K fd ps []) (hx : ∀ σ, PassesAt CX X σ (E σ))
    (ht : eval (.Call (.Attribute o m apos) [] [] pos) X.env = (do
      let ov ← eval o X.env
      standAt apos.atName
      let (f, first) ← holding [ov] (getMethod ov m pl)
      callWith pos f first (backTo pos (starEach [] X.env)) (backToKw pos (keywordEach [] X.env))) := by rfl) :
    PE X (.Call (.Attribute o m apos) [] [] pos) (tMethX C m sp E ta tNil) := by
  refine ⟨fun pins s σ H Q I h => ?_⟩
  refine PySem.W.methodCall_KW (pl := pl) (thn (he.run pins s σ H _ I h) fun u s1 ⟨x, H1, I1, rx, a, dx, fs, ex, ea, l, q⟩ => ?_) ht
  subst ex
  obtain rfl : u = Value.ref a := rx
  refine getmeth_ok I1 ea c hm l ?_
  exact PySem.W.callWith_K0 (first := [.ref a]) I1.kIn hm.kp (run_fnS (us := [.ref a]) (vs := [.ref a]) F hr hb (hx σ) I1 (.cons rfl .nil) q)
/-- C(e, ..), what its __init__ may raise told at the slots -/
def tMakeX (C : Addr) (sp : Sp) (E : St → XK) (t : TA) : TE := fun σ H Q => t σ H fun vs H1 => ∀ x dx, H1 x = none → H1 dx = none → dx ≠ x →
  sp (.ref x :: vs) (upd (upd H1 dx (.own x)) x (.ins C dx [])) (fun v H2 => v = .non ∧ Q (.ref x) H2) (E σ)
theorem pe_makeX (M : Mk X.K C f) (F : FnOk X.prog X.w X.K X.mg X.base CX k f fd ps sp) (hr : Room (k + 1) X.A) (hg : Gl X x) (hm : X.mg x = some (.ref C)) (hb : Binds X.K fd ps []) (hx : ∀ σ, PassesAt CX X σ (E σ))
    (ha : PA X (e :: es) t) (hdb : (x == ("__debug__" : Str)) = false := by decide) (he : starEach (e :: es) X.env = (false, eval e X.env) :: starEach es X.env := by rfl) (hpl : (backTo pos (starEach es X.env)).any (·.1) = false := by rfl) :
    PE X (.Call (.Name x p) (e :: es) [] pos) (tMakeX C sp E t) := by
  refine ⟨fun pins s σ H Q I h => ?_⟩
  refine wpAny_Call_Name_kw (ld_glob I hg hm ?_ hdb)
  refine PySem.W.callWith_K (h₀ := X.base) I.ok.mod.kin M.kp (thn (ha.run pos pins s σ H _ I h) fun us s1 ⟨vs, H1, I1, r, q⟩ => ⟨I1.kIn, ?_⟩) he hpl
  have hq := q (s1.heap.objs.size + 1) s1.heap.objs.size (I1.hok.fresh (Nat.le_succ _)) (I1.hok.fresh (Nat.le_refl _)) (Nat.ne_of_lt (Nat.lt_succ_self _))
  have I2 := Inv.made (C := C) I1
  have r2 : Vals (V.ref (s1.heap.objs.size + 1) :: vs) (Value.ref (s1.heap.objs.size + 1) :: us) := .cons rfl r
  have hl : (Value.ref (s1.heap.objs.size + 1) :: us).length = ps.length := by
    have e := r2.length
    rw [F.len _ _ _ _ hq] at e
    exact e.symm
  have b := hb _ (Value.ref (s1.heap.objs.size + 1) :: us) I2.kIn (by rw [List.append_nil]; exact hl)
  rw [List.append_nil] at b
  refine wpAny_call (make_map (f := f) I1.kIn M.makes M.init (beq_iff_eq.mp M.fn) (codeAny_mono (F.run _ X.stack _ _ ⟨Value.ref (s1.heap.objs.size + 1) :: us, []⟩ (Value.ref (s1.heap.objs.size + 1) :: us) _ _ (E σ) (hr.make C us [])
    (I2.env0.make C us []) b r2 hq) fun r s' hq' => ?_))
  cases r with
  | error e => exact hx σ pins _ _ e s' I2 hq'
  | ok fl =>
    cases fl with
    | ret u =>
      obtain ⟨v, H', I3, rv, ev, q3⟩ := I2.after hq'
      subst ev
      exact ⟨rv, ⟨V.ref (s1.heap.objs.size + 1), H', I3, rfl, q3⟩⟩
    | next => exact False.elim hq'
    | brk => exact False.elim hq'
    | cont => exact False.elim hq'
end
/-- isinstance(e, c), e the exception that the suite holds, with a dict of its own -/
theorem call_isX {X : Cx} {a D : Addr} {cls : Value} {oe : Obj} {d : Option Addr} {pn : List (Addr × Obj)} (C : ExcC X.K D) (hz : Zc cls d oe) (hf : ∃ vs, oe.data = .fields vs) :
    CallR (X.suite a ((a, oe) :: pn)) (.builtin "isinstance") (fun xs H Q => ∃ (dd : Addr) (fs : List (Str × V)) (c : V) (cv : Value) (b : Bool), cls = .ref D ∧ d = some dd ∧ H dd = some (.xd fs) ∧ xs = [.ref a, c] ∧ (∀ u, RelV c u → u = cv) ∧ PySem.W.kitOne X.K (.ref D) cv = some b ∧ Q (.bl b) H) := by
  intro pins s σ H xs us Q I r h
  obtain ⟨dd, fs, c, cv, b, rfl, rfl, ed, rfl, hcv, e, q⟩ := h
  cases r with
  | cons rx rr =>
    cases rr with
    | cons rt rr =>
      cases rr
      cases rx
      have ec := hcv _ rt
      subst ec
      obtain ⟨hget, _⟩ := I.pin (a, oe) (List.mem_append.mpr (.inl List.mem_cons_self))
      obtain ⟨vs, hv⟩ := hf
      have hx : ObjOk X.prog X.w H s.heap dd (.xd fs) := I.hok dd _ ed
      obtain ⟨mA, hns, hr⟩ := hx
      obtain ⟨od, ho, hl⟩ := lookIn_ns hns
      have J : PySem.W.InstAt s.heap a oe D (some od) := ⟨hget, hz.1, by unfold PySem.W.notCls; rw [hv] <;> rfl, by rw [hz.2]; exact ho⟩
      have hcl : (PySem.W.clsIn X.K D).isSome = true := by
        obtain ⟨cdD, hcD, _⟩ := PySem.W.any_some C.hd
        rw [hcD]
        rfl
      exact PySem.W.kia_one (PySem.W.kitx_exc hcl C.hg C.hk C.hs C.ha C.hn C.ht C.hm) I.kIn J e (fun z => nomatch z) fun tk => ⟨.bl b, H, I.kept (t' := tk) fun _ _ z => z, rfl, q⟩
/-! ### two dicts that hold the same, things at addresses too -/
def sameB : V → Bool
  | .ref _ => true
  | v => flatB v
theorem eqAt_sameB {A : Around} {s : Shared} {v : V} {u u' : Value} (r : RelV v u) (r' : RelV v u') (f : sameB v = true) : SeqAt.EqAt A s u u' true := by
  cases v with
  | ref a =>
    cases (show u = Value.ref a from r)
    cases (show u' = Value.ref a from r')
    exact SeqAt.EqAt.same _
  | non => exact eqAt_same r r' f
  | bl b => exact eqAt_same r r' f
  | int i => exact eqAt_same r r' f
  | str x => exact eqAt_same r r' f
  | byt b => exact eqAt_same r r' f
  | flt x => exact eqAt_same r r' f
  | ty n => exact eqAt_same r r' f
theorem hits_allS {κ : Type} [DecidableEq κ] {A : Around} {s : Shared} {kvs : List (κ × V)} {vb : List (κ × Value)} (rb : KV kvs vb) {ks : List (κ × V)} {va : List (κ × Value)} (ra : KV ks va) :
    (∀ p ∈ ks, valV kvs p.1 = some p.2 ∧ sameB p.2 = true) → PySem.W.KeqHits A s vb va true := by
  unfold KV at ra
  induction ra with
  | nil => intro _; exact .nil
  | @cons p q ps qs h t ih =>
    intro hp
    obtain ⟨h1, h2⟩ := h
    obtain ⟨e, f⟩ := hp p List.mem_cons_self
    have rr : RelO (some p.2) (valueAt vb p.1) := by rw [← e]; exact rb.val p.1
    obtain ⟨y, hy, ry⟩ := rr.some_of
    obtain ⟨k, v⟩ := q
    have h1' : p.1 = k := h1
    rw [h1'] at hy
    show PySem.W.KeqHits A s vb ((k, v) :: qs) (true && true)
    exact .hit hy (eqAt_sameB h2 ry f) (ih fun p' hm => hp p' (List.mem_cons_of_mem _ hm))
def rNeS : R2 := fun x y H Q => ∃ a b ks ls, x = .ref a ∧ y = .ref b ∧ H a = some (.dK ks) ∧ H b = some (.dK ls) ∧ ks.length = ls.length ∧ (∀ p ∈ ks, valV ls p.1 = some p.2 ∧ sameB p.2 = true) ∧ Q (.bl false) H
theorem op_neS {X : Cx} (hu : X.A.units + 1 < cLine) : OpR X (compareOp .NotEq) rNeS := by
  intro pins s σ H x y v u Q I rx ry h
  obtain ⟨a, b, ks, ls, rfl, rfl, ea, eb, hlen, hp, q⟩ := h
  obtain rfl : v = Value.ref a := rx
  obtain rfl : u = Value.ref b := ry
  obtain ⟨_, ya, va, ra, da⟩ := (show ObjOk X.prog X.w H s.heap a (.dK ks) from I.hok a _ ea)
  obtain ⟨_, yb, vb, rb, db⟩ := (show ObjOk X.prog X.w H s.heap b (.dK ls) from I.hok b _ eb)
  have hl : va.length = vb.length := by rw [← ra.length, ← rb.length]; exact hlen
  exact PySem.W.keq_ne (knd := mixKind X.prog X.w) (r := true) ya yb da db (by omega) (fun _ => hits_allS rb ra hp) (fin_bl I q (by simp [hl]))
def rEqS : R2 := fun x y H Q => ∃ a b ks ls, x = .ref a ∧ y = .ref b ∧ H a = some (.dK ks) ∧ H b = some (.dK ls) ∧ ks.length = ls.length ∧ (∀ p ∈ ks, valV ls p.1 = some p.2 ∧ sameB p.2 = true) ∧ Q (.bl true) H
theorem op_eqSX {X : Cx} (hu : X.A.units + 1 < cLine) : OpR X (compareOp .Eq) rEqS := by
  intro pins s σ H x y v u Q I rx ry h
  obtain ⟨a, b, ks, ls, rfl, rfl, ea, eb, hlen, hp, q⟩ := h
  obtain rfl : v = Value.ref a := rx
  obtain rfl : u = Value.ref b := ry
  obtain ⟨_, ya, va, ra, da⟩ := (show ObjOk X.prog X.w H s.heap a (.dK ks) from I.hok a _ ea)
  obtain ⟨_, yb, vb, rb, db⟩ := (show ObjOk X.prog X.w H s.heap b (.dK ls) from I.hok b _ eb)
  have hl : va.length = vb.length := by rw [← ra.length, ← rb.length]; exact hlen
  exact PySem.W.keq_eq (knd := mixKind X.prog X.w) (r := true) ya yb da db (by omega) (fun _ => hits_allS rb ra hp) (fin_bl I q (by simp [hl]))
theorem kit_self {K : PySem.W.Frag} (x : Addr) : PySem.W.kitOne K (.ref x) (.ref x) = some true := by
  show (if (Value.ref x == Value.ref x) = true then some true else _) = some true
  rw [if_pos (by simp)]
theorem kit_ref {K : PySem.W.Frag} {x y : Addr} (hdct : PySem.W.hasDictIn K y = true) (ht : PySem.W.typeIn K (.ref y) = some (.type "type")) (h4 : PySem.W.subIn K (.ref x) (.ref y) = some true) : PySem.W.kitOne K (.ref x) (.ref y) = some true := by
  obtain ⟨cd, hc, _⟩ := PySem.W.any_some hdct
  have e2 : ((PySem.W.clsIn K y).isSome && PySem.W.typeIn K (.ref y) == some (.type "type")) = true := by rw [hc, ht] <;> rfl
  show (if (Value.ref x == Value.ref y) = true then some true else if ((PySem.W.clsIn K y).isSome && PySem.W.typeIn K (.ref y) == some (.type "type")) = true then PySem.W.subIn K (.ref x) (.ref y) else none) = some true
  rw [if_pos e2, h4]
  split <;> rfl
/-! ### two dicts compared whose values are data: True or False -/
def eqT (D : V → PyData) (ks ls : List (Key × V)) : Bool := (ks.length == ls.length) && ks.all fun p => match valV ls p.1 with
  | none => false
  | some v => PyData.eqv (D p.2) (D v)
theorem hits_data {X : Cx} {pins : List (Addr × Obj)} {σ : St} {H : Hp} {s : Shared} {A : Around} (I : Inv X pins σ H s) (hu : A.units + 65 < cLine) (D : V → PyData) {ls : List (Key × V)} {vb : List (Key × Value)} (rb : KV ls vb) (hb : ∀ p ∈ ls, Dp X.K H p.2 (D p.2) ∧ SeqAt.shaped (D p.2) = true) {ks : List (Key × V)} {va : List (Key × Value)} (ra : KV ks va) :
    (∀ p ∈ ks, Dp X.K H p.2 (D p.2) ∧ SeqAt.shaped (D p.2) = true) → PySem.W.KeqHits A.in1 s vb va (ks.all fun p => match valV ls p.1 with
      | none => false
      | some v => PyData.eqv (D p.2) (D v)) := by
  unfold KV at ra
  induction ra with
  | nil => intro _; exact .nil
  | @cons p q ps qs h t ih =>
    intro hp
    obtain ⟨h1, h2⟩ := h
    obtain ⟨k, v⟩ := q
    have h1' : p.1 = k := h1
    have rr := rb.val p.1
    have ih' := ih fun p' hm => hp p' (List.mem_cons_of_mem _ hm)
    rw [List.all_cons]
    cases e : valV ls p.1 with
    | none =>
      rw [e] at rr
      have hn : valueAt vb p.1 = none := by
        cases e2 : valueAt vb p.1 with
        | none => rfl
        | some _ => rw [e2] at rr; exact (show False from rr).elim
      rw [h1'] at hn
      exact .miss hn
    | some y =>
      rw [e] at rr
      obtain ⟨u, hy, ry⟩ := rr.some_of
      rw [h1'] at hy
      have hy2 : ∃ q ∈ ls, q.2 = y := by
        unfold valV at e
        cases e3 : ls.find? fun kv => decide (kv.1 = p.1) with
        | none => rw [e3] at e; cases e
        | some q => rw [e3] at e; exact ⟨q, List.mem_of_find?_eq_some e3, Option.some.inj e⟩
      obtain ⟨q, hq, rfl⟩ := hy2
      obtain ⟨as, r1⟩ := Dp.reads I _ _ _ (hp p List.mem_cons_self).1 h2
      obtain ⟨bs, r2⟩ := Dp.reads I _ _ _ (hb q hq).1 ry
      exact .hit hy (PySem.W.keq_at r1 r2 (hp p List.mem_cons_self).2 (hb q hq).2 (by show A.units + 1 + 64 < cLine; omega)) ih'
def rEqT (K : PySem.W.Frag) (neg : Bool) : R2 := fun x y H Q => ∃ (a b : Addr) (ks ls : List (Key × V)) (D : V → PyData), x = .ref a ∧ y = .ref b ∧ H a = some (.dK ks) ∧ H b = some (.dK ls) ∧ (∀ p ∈ ks, Dp K H p.2 (D p.2) ∧ SeqAt.shaped (D p.2) = true) ∧ (∀ p ∈ ls, Dp K H p.2 (D p.2) ∧ SeqAt.shaped (D p.2) = true) ∧ Q (.bl (if neg then !eqT D ks ls else eqT D ks ls)) H
theorem op_eqT {X : Cx} (hu : X.A.units + 65 < cLine) : OpR X (compareOp .Eq) (rEqT X.K false) := by
  intro pins s σ H x y v u Q I rx ry h
  obtain ⟨a, b, ks, ls, D, rfl, rfl, ea, eb, ha, hb, q⟩ := h
  obtain rfl : v = Value.ref a := rx
  obtain rfl : u = Value.ref b := ry
  obtain ⟨_, ya, va, ra, da⟩ := (show ObjOk X.prog X.w H s.heap a (.dK ks) from I.hok a _ ea)
  obtain ⟨_, yb, vb, rb, db⟩ := (show ObjOk X.prog X.w H s.heap b (.dK ls) from I.hok b _ eb)
  refine PySem.W.keq_eq (knd := mixKind X.prog X.w) ya yb da db (by omega) (fun _ => hits_data I hu D rb hb ra ha) (fin_bl I q ?_)
  unfold eqT
  rw [ra.length, rb.length]
  rfl
theorem op_neT {X : Cx} (hu : X.A.units + 65 < cLine) : OpR X (compareOp .NotEq) (rEqT X.K true) := by
  intro pins s σ H x y v u Q I rx ry h
  obtain ⟨a, b, ks, ls, D, rfl, rfl, ea, eb, ha, hb, q⟩ := h
  obtain rfl : v = Value.ref a := rx
  obtain rfl : u = Value.ref b := ry
  obtain ⟨_, ya, va, ra, da⟩ := (show ObjOk X.prog X.w H s.heap a (.dK ks) from I.hok a _ ea)
  obtain ⟨_, yb, vb, rb, db⟩ := (show ObjOk X.prog X.w H s.heap b (.dK ls) from I.hok b _ eb)
  refine PySem.W.keq_ne (knd := mixKind X.prog X.w) ya yb da db (by omega) (fun _ => hits_data I hu D rb hb ra ha) (fin_bl I q ?_)
  unfold eqT
  rw [ra.length, rb.length]
  rfl
/-! ### == of two objects of an own class by the class's own def, whatever it tells -/
def rEqO (C : Addr) (sp : Sp) (E : XK) : R2 := fun x y H Q => ∃ (a b dx dy : Addr) (fs gs : List (Str × V)), x = .ref a ∧ y = .ref b ∧ H a = some (.ins C dx fs) ∧ H b = some (.ins C dy gs) ∧ sp [.ref a, .ref b] H (fun v H' => ∃ c, v = .bl c ∧ Q (.bl c) H') E
theorem op_eqO {X : Cx} {CX : CXT} {n : Nat} {C f : Addr} {fd : FuncData} {ps : List Str} {sp : Sp} {E : XK} (F : FnOk X.prog X.w X.K X.mg X.base CX n f fd ps sp) (hrm : Room n X.A)
    (hs : PySem.W.findIn X.K (.ref C) "__eq__" = some (some (.ref f))) (hf : PySem.W.isFn X.K (.ref f) = true) (hb : Binds X.K fd ps []) (hx : Passes CX X E) : OpR X (compareOp .Eq) (rEqO C sp E) := by
  intro pins s σ H x y v u Q I rx ry h
  obtain ⟨a, b, dx, dy, fs, gs, rfl, rfl, ha, hb', hsp⟩ := h
  cases (show v = Value.ref a from rx)
  cases (show u = Value.ref b from ry)
  obtain ⟨mA, J, _⟩ := ins_get I.hok ha
  obtain ⟨mB, J', _⟩ := ins_get I.hok hb'
  obtain ⟨od, J, _⟩ := J.look
  obtain ⟨od', J', _⟩ := J'.look
  obtain ⟨m, hF⟩ := I.fr
  refine PySem.W.cmp_K (op := .Eq) (tb := .ref C) hrm.units0 hF I.ok.mod.kin J J'.type (by simp [PySem.W.notFirst]) hs hf ?_
  refine wpAny_mono (run_fn (us := [.ref a, .ref b]) (vs := [.ref a, .ref b]) (dvs := []) (ds := []) F hrm hb .nil hx I (.cons rfl (.cons rfl .nil)) hsp) (fun r s' q => ?_) fun _ _ z => z
  obtain ⟨w, H', I', rw', c, ew, q⟩ := q
  subst ew
  cases rw'
  exact ⟨.bl c, H', I', rfl, q⟩
end L2
namespace LR
open PySem PySem.Spec PyProof.Rows L2 RT
section
variable {prog : Program} {w : World} {A : Around} {s : Shared} {R : Result → Shared → Prop}
theorem extend_rev {it l : Addr} {items : Array Value} (hh : A.handled = none) (hit : s.heap.IsRevIter it l ((items.size : Int) - 1)) (hl : s.heap.IsList l items) (hne : l ≠ it) (S : Addr) (hSi : S ≠ it) (hSl : S ≠ l) (res : Value) (c₀ : Nat)
    (hS : s.heap.get? S = some { cls := .type "list", data := .seq #[] c₀ }) (hn : items.size ≤ sizeLine)
    (hR : ∀ s' acc' c', Moved (S :: [it]) (fun a b => b = a) s s' → s'.heap.get? S = some { cls := .type "list", dict := none, data := .seq acc' c', slots := #[] } → ItemsOf (fun i v => items[items.size - 1 - i]? = some v) acc' items.size → R (.ok (.ret res)) s') :
    wpAny (model prog w) A.in1 (Builtin.List.listExtendWith (.ref S) (.ref it) res)
      (fun fin s' => match fin with | .done f => R (.ok f) s' | .again c' => c'.quiet = true ∧ codeAny (model prog w) A c' R s') (fun e s' => R (.error e) s') s := by
  have W := (Walks.listRev (prog := prog) (w := w) (A := A.in1) hh it l hne items).toS
  have hSf : S ∉ [it, l] := by simp only [List.mem_cons, List.not_mem_nil, or_false, not_or]; exact ⟨hSi, hSl⟩
  have hT : s.TypeIs (.ref it) "list_reverseiterator" := hit.typeIs
  have h1 : Builtin.List.listSameRef (.ref S) (.ref it) = false := by simp [Builtin.List.listSameRef, hSi]
  unfold Builtin.List.listExtendWith
  refine wpAny_bind (wpAny_typeOf hT ?_)
  rw [if_neg (by rw [h1]; decide)]
  refine wpAny_bind (wpAny_pyIter_revIter hit ?_)
  refine wpAny_bind (wpAny_holding ?_)
  unfold Builtin.List.listLengthHint
  refine wpAny_bind (wpAny_specialOf hT nolen_lri ?_)
  show wpAny _ A.in1 (specialOf (Value.ref it) (Str.ofString "__length_hint__") >>= _) _ _ _
  refine wpAny_bind (wpAny_specialOf hT hint_lri ?_)
  generalize hid : ("list_reverseiterator.__length_hint__" : String) = id0
  wp_delta
  rw [show splitId id0 = some ("list_reverseiterator", "__length_hint__") from by subst hid; decide +kernel]
  subst hid
  refine wpAny_bind (wpAny_isInstance (b := true) hT (by rw [isSubtype_type]; kernel_rfl) ?_)
  refine wpAny_pure ?_
  rw [if_neg (by decide)]
  have e0 : ((items.size : Nat) : Int) - 1 - ((0 : Nat) : Int) = (items.size : Int) - 1 := by omega
  refine wpAny_pure ⟨plainId_quiet F.plain_extend_loop _, codeAny_extend_loopS W hn _ hSf _ items.size 0 _ _ _ rfl (Nat.zero_le _) ⟨Nat.zero_le _, by rw [e0]; exact hit, hl⟩ hS (ItemsOf.nil _) fun s' acc' c' hm hS' hacc => ?_⟩
  exact hR s' acc' c' hm hS' hacc
theorem list_init_rev {it l : Addr} {items : Array Value} (hh : A.handled = none) (hit : s.heap.IsRevIter it l ((items.size : Int) - 1)) (hl : s.heap.IsList l items) (hne : l ≠ it) (S : Addr) (hSi : S ≠ it) (hSl : S ≠ l)
    (hS : s.heap.get? S = some { cls := .type "list", data := .seq #[] }) (hn : items.size ≤ sizeLine)
    (hR : ∀ s' acc' c', Moved (S :: [it]) (fun a b => b = a) s s' → s'.heap.get? S = some { cls := .type "list", dict := none, data := .seq acc' c', slots := #[] } → ItemsOf (fun i v => items[items.size - 1 - i]? = some v) acc' items.size → R (.ok (.ret .none)) s') :
    wpAny (model prog w) A.in1 (Builtin.«list.__init__» ⟨[.ref S, .ref it], []⟩)
      (fun fin s' => match fin with | .done f => R (.ok f) s' | .again c' => c'.quiet = true ∧ codeAny (model prog w) A c' R s') (fun e s' => R (.error e) s') s := by
  show wpAny _ A.in1 (do let old ← Builtin.List.listItems (.ref S); Builtin.List.listUpdate (.ref S) (fun _ => #[]); letGo old.toList.reverse; Builtin.List.listExtendWith (.ref S) (.ref it) .none) _ _ s
  refine wpAny_bind ?_
  unfold Builtin.List.listItems
  refine wpAny_bind (wpAny_seqItems hS rfl (wpAny_pure ?_))
  show wpAny _ A.in1 (updateSeq S (fun _ => #[]) >>= fun _ => letGo (#[] : Array Value).toList.reverse >>= fun _ => Builtin.List.listExtendWith (.ref S) (.ref it) .none) _ _ s
  refine wpAny_bind (wpAny_updateSeq hS rfl ?_)
  have hS₂ := Heap.get?_update_self (Obj.mapSeq (fun _ => (#[] : Array Value))) hS rfl
  have oth : ∀ b o, b ≠ S → s.heap.get? b = some o → (s.heap.update S (Obj.mapSeq (fun _ => (#[] : Array Value)))).get? b = some o :=
    fun b o hb e => (Heap.get?_update_other _ _ (Ne.symm hb)).trans e
  refine wpAny_bind (wpAny_letGo ?_)
  refine extend_rev (s := { s with heap := s.heap.update S (Obj.mapSeq (fun _ => (#[] : Array Value))) }) hh (hit.at fun o e => oth it o hSi.symm e) (let ⟨o, e, r⟩ := hl; ⟨o, oth l o hSl.symm e, r⟩) hne S hSi hSl .none _ hS₂ hn fun s' acc' c' hm hS' hacc => ?_
  refine hR s' acc' c' (Moved.trans (fun _ _ _ a b => b.trans a) (Moved.then_heap (wr := S :: [it]) (G := fun a b => b = a) (Moved.refl fun _ => rfl) (Nat.le_refl _) fun b o hb e => oth b o (fun h => hb ?_) e) hm) hS' hacc
  rw [h]
  exact List.mem_cons_self
end
section
variable {prog : Program} {w : World} {A : Around} {E : Value → Shared → Prop} {s : Shared}
theorem call_list_rev {it l : Addr} {items : Array Value} {Q : Value → Shared → Prop} (hh : A.handled = none) (hit : s.heap.IsRevIter it l ((items.size : Int) - 1)) (hl : s.heap.IsList l items) (hne : l ≠ it) (hn : items.size ≤ sizeLine)
    (hQ : ∀ (h' : Heap) (tk : Nat) (acc : Array Value) (c' : Nat), (∀ b o, b ≠ it → s.heap.get? b = some o → h'.get? b = some o) → h'.get? s.heap.objs.size = some { cls := .type "list", dict := none, data := .seq acc c', slots := #[] } →
      ItemsOf (fun i v => items[items.size - 1 - i]? = some v) acc items.size → Q (.ref s.heap.objs.size) { s with heap := h', toks := tk }) :
    wpAny (model prog w) A (call (.type "list") [.ref it]) Q E s := by
  obtain ⟨oi, hoi, _⟩ := id hit
  obtain ⟨ol, hol, _⟩ := id hl
  have hSi : s.heap.objs.size ≠ it := Nat.ne_of_gt (Heap.lt_size hoi)
  have hSl : s.heap.objs.size ≠ l := Nat.ne_of_gt (Heap.lt_size hol)
  refine callType_codes (Q₁ := fun obj s₁ => obj = .ref s.heap.objs.size ∧ s₁ = { s with heap := s.heap.push { cls := .type "list", data := .seq #[] } }) F.called_list (F.typeCall_list_1 _) F.entry_list_init
    (code_list_new _ ⟨rfl, rfl⟩) fun obj s₁ h₁ => ?_
  obtain ⟨rfl, rfl⟩ := h₁
  have hS : (s.heap.push { cls := .type "list", data := .seq #[] }).get? s.heap.objs.size = some { cls := .type "list", data := .seq #[] } := Heap.get?_push_size _ rfl
  refine ⟨⟨_, hS, rfl⟩, F.args_list_init_2 _ _, list_init_rev (s := { s with heap := s.heap.push { cls := .type "list", data := .seq #[] } }) (A := A.in1) hh (hit.at fun o e => Heap.get?_push_of_some _ e) (hl.push _) hne _ hSi hSl hS hn fun s' acc' c' hm hS' hacc => ?_⟩
  refine ⟨rfl, ?_⟩
  rw [Moved.eq_with hm]
  refine hQ s'.heap s'.toks acc' c' (fun b o hb e => hm.heap b o (fun hmem => ?_) (Heap.get?_push_of_some _ e)) hS' hacc
  rcases List.mem_cons.mp hmem with e' | hmem
  · exact absurd (Heap.lt_size e) (by rw [e']; exact Nat.lt_irrefl _)
  · exact hb (List.mem_singleton.mp hmem)
end
/-- list(reversed(x)), x a list: a new list -/
def tListRev (K : PySem.W.Frag) (te : TE) : TE := fun σ H Q => te σ H fun v H1 => ∃ (a : Addr) (xs : List V), v = .ref a ∧ SqL K H1 a xs ∧ ∀ q, H1 q = none → Q (.ref q) (upd H1 q (.lst xs.reverse))
section
variable {X : Cx}
theorem pe_listRev {e : Expr} {te : TE} {p p2 pos pos2 : Pos} (hc : X.calm = true) (hg : Gl X "list") (hm : X.mg "list" = none) (hg2 : Gl X "reversed") (hm2 : X.mg "reversed" = none) (he : PE X e te)
    (hs : starEach [e] X.env = (false, eval e X.env) :: starEach [] X.env := by rfl)
    (hs2 : starEach [.Call (.Name "reversed" p2) [e] [] pos2] X.env = (false, eval (.Call (.Name "reversed" p2) [e] [] pos2) X.env) :: starEach [] X.env := by rfl) :
    PE X (.Call (.Name "list" p) [.Call (.Name "reversed" p2) [e] [] pos2] [] pos) (tListRev X.K te) := by
  refine ⟨fun pins s σ H Q I h => ?_⟩
  refine Call_ (ld_blt I hg hm boot_list (PyProof.Rows.callWith_type1 (args_cons (Call_ (ld_blt I hg2 hm2 PyProof.Rows.boot_reversed (PyProof.Rows.callWith_type1 (args_cons (thn (he.run pins s σ H _ I h) fun u s1 ⟨v, H1, I1, r1, q1⟩ => args_nil ?_) hs) hs rfl))) hs2) hs2 rfl))
  obtain ⟨a, xs, ev, hq, q⟩ := q1
  subst ev
  obtain rfl : u = Value.ref a := r1
  obtain ⟨its, rv, p', hz⟩ := I1.list hq
  refine call_reversed_list p'.isList (args_nil ?_)
  have k0 : ∀ b o, s1.heap.get? b = some o → (s1.heap.push (revObj a ((its.toArray.size : Int) - 1))).get? b = some o := fun b o e => Heap.get?_push_of_some _ e
  have I2 : Inv X pins σ H1 { s1 with heap := s1.heap.push (revObj a ((its.toArray.size : Int) - 1)) } := I1.kept (t' := s1.toks) k0
  obtain ⟨f0, f1, f2, f3, f4, f5⟩ := I1.fpOk (H' := H1) (b := s1.heap.objs.size) (Nat.le_refl _) (I1.hok.fresh (Nat.le_refl _))
  have hl := p'.isList
  obtain ⟨ol, hol, _⟩ := id hl
  have hne : a ≠ s1.heap.objs.size := Nat.ne_of_lt (Heap.lt_size hol)
  have hn : its.toArray.size ≤ sizeLine := by rw [List.size_toArray, ← rv.length]; exact hz
  refine call_list_rev (s := { s1 with heap := s1.heap.push (revObj a ((its.toArray.size : Int) - 1)) }) (I1.ok.hd hc) ⟨_, Heap.get?_push_size _ rfl, rfl, rfl⟩ (hl.push _) hne hn fun h' tk acc c' hk hS' hi => ?_
  have hfp : ∀ b ∈ [s1.heap.objs.size], FpOk X pins H1 b := fun b hb => by
    rw [List.mem_singleton.mp hb]
    exact ⟨f0, f1, f2, f3, f4, f5⟩
  refine ⟨.ref (s1.heap.push (revObj a ((its.toArray.size : Int) - 1))).objs.size, upd H1 _ (.lst xs.reverse), I2.turnedNew (t' := tk) (ch := [s1.heap.objs.size]) (ob := .lst xs.reverse) (fun b o hb e => hk b o (fun z => hb (by rw [z]; exact List.mem_singleton.mpr rfl)) e) hfp (Nat.le_refl _)
    (show ObjOk X.prog X.w _ _ _ (.lst xs.reverse) from ⟨by rw [List.length_reverse]; exact hz, acc.toList, c', vals_rev rv hi, ?_⟩), rfl, q _ (I2.hok.fresh (Nat.le_refl _))⟩
  rw [Array.toArray_toList]
  exact hS'
end
end LR
namespace L2
open PySem PySem.Spec PyProof.Rows
section
variable {X : Cx} {CX : CXT} {k : Nat} {f C : Addr} {fd : FuncData} {ps : List Str} {sp : Sp} {E : St → XK}
theorem pAt {EX : XK} (h : Passes CX X EX) : ∀ σ, PassesAt CX X σ ((fun _ => EX) σ) := fun σ pins H s e s' I hq => h pins σ H s e s' I hq
/-- a call one level below -/
theorem run_fn1 {pins : List (Addr × Obj)} {σ : St} {H : Hp} {s : Shared} {Q : VK} {us : List Value} {vs : List V} (F : FnOk X.prog X.w X.K X.mg X.base CX k f fd ps sp) (hr : Room (k + 1) X.A) (hb : Binds X.K fd ps []) (hx : PassesAt CX X σ (E σ))
    (I : Inv X pins σ H s) (r : Vals vs us) (h : sp vs H Q (E σ)) : wpAny (model X.prog X.w) X.A.in1 (call (.ref f) us) (EP X pins σ Q) X.xe s := by
  have h' : sp (vs ++ []) H Q (E σ) := by rw [List.append_nil]; exact h
  have r2 : Vals (vs ++ []) (us ++ []) := r.append .nil
  have hl : (us ++ []).length = ps.length := by rw [← r2.length]; exact F.len _ _ _ _ h'
  refine wpAny_call (codeAny_mono (F.run X.A.in1 X.stack s H ⟨us, []⟩ (us ++ []) (vs ++ []) Q (E σ) hr.in1 I.env0.in1 (hb s us I.kIn hl) r2 h') fun r s' hq => ?_)
  cases r with
  | error e => exact hx pins H s e s' I hq
  | ok fl =>
    cases fl with
    | ret u => exact I.after hq
    | next => exact False.elim hq
    | brk => exact False.elim hq
    | cont => exact False.elim hq
theorem run_fn0 {pins : List (Addr × Obj)} {σ : St} {H : Hp} {s : Shared} {Q : VK} {us : List Value} {vs : List V} (F : FnOk X.prog X.w X.K X.mg X.base CX k f fd ps sp) (hr : Room k X.A) (hb : Binds X.K fd ps []) (hx : PassesAt CX X σ (E σ))
    (I : Inv X pins σ H s) (r : Vals vs us) (h : sp vs H Q (E σ)) : wpAny (model X.prog X.w) X.A (call (.ref f) us) (EP X pins σ Q) X.xe s :=
  run_fnSD (dvs := []) (ds := []) F hr hb .nil hx I r (by rw [List.append_nil]; exact h)
/-- an own special method: where it is found -/
structure Spec1 (K : PySem.W.Frag) (C : Addr) (m : String) (f : Addr) : Prop where
  at_ : PySem.W.findIn K (.ref C) m = some (some (.ref f))
  fn : PySem.W.isFn K (.ref f) = true
  isf : PySem.W.fnIn K f = true
/-! ### o[e] by the class's own def -/
def tSubO (C : Addr) (sp : Sp) (E : St → XK) (ta tb : TE) : TE := fun σ H Q => ta σ H fun x H1 => tb σ H1 fun y H2 => ∃ a dx fs, x = .ref a ∧ H2 a = some (.ins C dx fs) ∧ sp [.ref a, y] H2 Q (E σ)
theorem pe_subO {a b : Expr} {ta tb : TE} {pos : Pos} (ha : PE X a ta) (hb : PE X b tb) (hs : Spec1 X.K C "__getitem__" f) (F : FnOk X.prog X.w X.K X.mg X.base CX k f fd ps sp) (hr : Room (k + 1) X.A) (hbd : Binds X.K fd ps []) (hx : ∀ σ, PassesAt CX X σ (E σ))
    (hsl : ∀ x i, subscripted b true (.ref x) i = runValue (.builtin "lifetime.subscript" ⟨[.ref x, i], []⟩) := by intro _ _; rfl) : PE X (.Subscript a b pos) (tSubO C sp E ta tb) := by
  refine ⟨fun pins s σ H Q I h => ?_⟩
  refine Subscript_ (binT (R := fun x y H2 => ∃ a dx fs, x = .ref a ∧ H2 a = some (.ins C dx fs) ∧ sp [.ref a, y] H2 Q (E σ)) ha hb I h fun v u s2 x y H2 I2 rx ry q => ?_)
  obtain ⟨o, dx, fs, rfl, ho, hsp⟩ := q
  cases (show v = Value.ref o from rx)
  obtain ⟨mA, J, _⟩ := ins_get I2.hok ho
  obtain ⟨od, J, _⟩ := J.look
  obtain ⟨m, hF⟩ := I2.fr
  exact PySem.W.sub_K hF I2.ok.mod.kin J hs.at_ hs.isf hs.fn (run_fn1 (vs := [.ref o, y]) F hr hbd (hx σ) I2 (.cons rfl (.cons ry .nil)) hsp) (hsl _ _)
/-! ### e in o -/
def rInO (C : Addr) (sp : Sp) (EX : XK) : R2 := fun x y H Q => ∃ (b dx : Addr) (fs : List (Str × V)), y = .ref b ∧ H b = some (.ins C dx fs) ∧ sp [.ref b, x] H (fun v H' => ∃ c, v = .bl c ∧ Q (.bl c) H') EX
theorem op_inO {EX : XK} (hs : Spec1 X.K C "__contains__" f) (F : FnOk X.prog X.w X.K X.mg X.base CX k f fd ps sp) (hr : Room k X.A) (hbd : Binds X.K fd ps []) (hx : Passes CX X EX) : OpR X (compareOp .In) (rInO C sp EX) := by
  intro pins s σ H x y v u Q I rx ry h
  obtain ⟨b, dx, fs, rfl, hb, hsp⟩ := h
  cases (show u = Value.ref b from ry)
  obtain ⟨mA, J, _⟩ := ins_get I.hok hb
  obtain ⟨od, J, _⟩ := J.look
  obtain ⟨m, hF⟩ := I.fr
  refine PySem.W.in_K hF I.ok.mod.kin J hs.at_ hs.fn ?_
  refine wpAny_mono (run_fn0 (vs := [.ref b, x]) (E := fun _ => EX) F hr hbd (pAt hx σ) I (.cons rfl (.cons rx .nil)) hsp) (fun r s' q => ?_) fun _ _ z => z
  obtain ⟨z, H', I', rw', c, ew, q⟩ := q
  subst ew
  cases rw'
  exact wpAny_pure ⟨.bl c, H', I', rfl, q⟩
theorem op_notinO {EX : XK} (hs : Spec1 X.K C "__contains__" f) (F : FnOk X.prog X.w X.K X.mg X.base CX k f fd ps sp) (hr : Room k X.A) (hbd : Binds X.K fd ps []) (hx : Passes CX X EX) : OpR X (compareOp .NotIn) (fun x y H Q => rInO C sp EX x y H fun v H' => ∃ c, v = .bl c ∧ Q (.bl (!c)) H') := by
  intro pins s σ H x y v u Q I rx ry h
  obtain ⟨b, dx, fs, rfl, hb, hsp⟩ := h
  cases (show u = Value.ref b from ry)
  obtain ⟨mA, J, _⟩ := ins_get I.hok hb
  obtain ⟨od, J, _⟩ := J.look
  obtain ⟨m, hF⟩ := I.fr
  refine PySem.W.notIn_K hF I.ok.mod.kin J hs.at_ hs.fn ?_
  refine wpAny_mono (run_fn0 (vs := [.ref b, x]) (E := fun _ => EX) F hr hbd (pAt hx σ) I (.cons rfl (.cons rx .nil)) hsp) (fun r s' q => ?_) fun _ _ z => z
  obtain ⟨z, H', I', rw', c, ew, c', ec, q⟩ := q
  subst ew
  cases rw'
  cases ec
  exact wpAny_pure ⟨.bl (!c), H', I', rfl, q⟩
/-! ### len(o) -/
theorem call_lenO {EX : XK} (hs : Spec1 X.K C "__len__" f) (F : FnOk X.prog X.w X.K X.mg X.base CX k f fd ps sp) (hr : Room (k + 1) X.A) (hbd : Binds X.K fd ps []) (hx : Passes CX X EX) :
    CallR X (.builtin "len") (fun xs H Q => ∃ (a dx : Addr) (fs : List (Str × V)), xs = [.ref a] ∧ H a = some (.ins C dx fs) ∧ sp [.ref a] H (fun v H' => ∃ n : Int, v = .int n ∧ (0 ≤ n ∧ n < 2 ^ 63) ∧ Q (.int n) H') EX) := by
  intro pins s σ H xs us Q I r h
  obtain ⟨a, dx, fs, rfl, ha, hsp⟩ := h
  obtain ⟨u, rfl, rx⟩ := vals1 r
  cases (show u = Value.ref a from rx)
  obtain ⟨mA, J, _⟩ := ins_get I.hok ha
  obtain ⟨od, J, _⟩ := J.look
  obtain ⟨m, hF⟩ := I.fr
  refine PySem.W.len_K hF I.ok.mod.kin J hs.at_ hs.fn ?_
  refine wpAny_mono (run_fn1 (vs := [.ref a]) (E := fun _ => EX) F hr hbd (pAt hx σ) I (.cons rfl .nil) hsp) (fun r s' q => ?_) fun _ _ z => z
  obtain ⟨z, H', I', rw', n, ew, hn, q⟩ := q
  subst ew
  obtain ⟨t, rfl⟩ := (show ∃ t, r = Value.int n t from rw')
  exact ⟨hn, ⟨.int n, H', I'.tok _, ⟨_, rfl⟩, q⟩⟩
/-! ### o | p -/
def tOrO (C : Addr) (sp : Sp) (E : St → XK) (ta tb : TE) : TE := fun σ H Q => ta σ H fun x H1 => tb σ H1 fun y H2 => ∃ a b dx dy fs gs, x = .ref a ∧ y = .ref b ∧ H2 a = some (.ins C dx fs) ∧ H2 b = some (.ins C dy gs) ∧ sp [.ref a, .ref b] H2 (fun v H3 => (∃ c, v = .ref c) ∧ Q v H3) (E σ)
theorem pe_orO {a b : Expr} {ta tb : TE} {pos : Pos} (ha : PE X a ta) (hb : PE X b tb) (hs : Spec1 X.K C "__or__" f) (hc : PySem.W.selfFirst X.K C = true) (F : FnOk X.prog X.w X.K X.mg X.base CX k f fd ps sp) (hr : Room k X.A) (hbd : Binds X.K fd ps []) (hx : ∀ σ, PassesAt CX X σ (E σ)) : PE X (.BinOp a .BitOr b pos) (tOrO C sp E ta tb) := by
  refine ⟨fun pins s σ H Q I h => ?_⟩
  refine wpAny_BinOp (binT (R := fun x y H2 => ∃ a b dx dy fs gs, x = .ref a ∧ y = .ref b ∧ H2 a = some (.ins C dx fs) ∧ H2 b = some (.ins C dy gs) ∧ sp [.ref a, .ref b] H2 (fun v H3 => (∃ c, v = .ref c) ∧ Q v H3) (E σ)) ha hb I h fun v u s2 x y H2 I2 rx ry q => ?_)
  obtain ⟨o, p, dx, dy, fs, gs, rfl, rfl, ho, hp, hsp⟩ := q
  cases (show v = Value.ref o from rx)
  cases (show u = Value.ref p from ry)
  obtain ⟨mA, J, _⟩ := ins_get I2.hok ho
  obtain ⟨mB, J', _⟩ := ins_get I2.hok hp
  obtain ⟨od, J, _⟩ := J.look
  obtain ⟨od', J', _⟩ := J'.look
  obtain ⟨m, hF⟩ := I2.fr
  refine PySem.W.binop_K (op := .BitOr) hF I2.ok.mod.kin J J'.type hc hs.at_ hs.fn ?_
  refine wpAny_mono (run_fn0 (vs := [.ref o, .ref p]) F hr hbd (hx σ) I2 (.cons rfl (.cons rfl .nil)) hsp) (fun r s' q => ?_) fun _ _ z => z
  obtain ⟨z, H', I', rw', ⟨c, ew⟩, q⟩ := q
  subst ew
  cases (show r = Value.ref c from rw')
  exact ⟨.ref c, H', I', rfl, q⟩
end
end L2
namespace L2
open PySem PySem.Spec PyProof.Rows
/-! ### d.setdefault(t, x), t a tuple -/
def rSetDefT : V → List V → Hp → VK → Prop := fun x xs H Q => ∃ (a : Addr) (kvs : List (List L2.Key × V)) (k : List L2.Key) (b : Addr) (d : V), x = .ref a ∧ xs = [.ref b, d] ∧ H a = some (.dT kvs) ∧ H b = some (.tup (k.map kV)) ∧ kvs.length < sizeLine ∧
  (∀ v, valV kvs k = some v → Q v H) ∧ (valV kvs k = none → Q d (upd H a (.dT (putK kvs k d))))
theorem mt_setdefT {X : Cx} (hu : X.A.units + 1 < cLine) : MtR X "dict.setdefault" rSetDefT := by
  intro pins s σ H x xs v us Q I rx rxs h
  obtain ⟨a, kvs, k, b, d, rfl, rfl, ha, hb, hl, q1, q2⟩ := h
  cases rx
  obtain ⟨u1, u2, rfl, r1, r2⟩ := vals2 rxs
  cases r1
  obtain ⟨z, hd, xs', rel, dd⟩ := dt_of I.hok ha
  have hz : xs'.length ≤ sizeLine := by rw [← Paired.length rel]; exact z
  have le : (putK kvs k d).length ≤ sizeLine := by have := length_putK kvs k d; omega
  refine call_setdefault_heap (knd := tupleKind (mixKind X.prog X.w)) (k := k) (tupleKind_room_in1 hu) (key_of I.hok hb) hd dd (fun p hp => ?_) (fun hn h' dd' same => ?_) hz
  · have r := rel.val k
    rw [hp] at r
    cases ev : valV kvs k with
    | none =>
      rw [ev] at r
      exact (show False from r).elim
    | some v0 =>
      rw [ev] at r
      exact ⟨v0, H, I.tok _, r, q1 v0 ev⟩
  · have r := rel.val k
    rw [hn] at r
    have e : valV kvs k = none := by
      cases ev : valV kvs k with
      | none => rfl
      | some v0 =>
        rw [ev] at r
        exact (show False from r).elim
    obtain ⟨q, es, ep, e1, e2, e3, e4, _, e5⟩ := dd'
    refine ⟨d, upd H a (.dT (putK kvs k d)), d_write I (by rw [ha]; exact True.intro) same ⟨q, e1⟩ ⟨le, hd, _, (rel.put k hb r2).keeps fun c ys ec => ?_, q, es, ep, e1, e2, e3, e4, by first | exact e5 | assumption⟩, r2, q2 e⟩
    rw [upd_ne (ne_of ec ha (fun z => nomatch z))]
    exact ec
end L2
namespace L2
open PySem PySem.Spec PyProof.Rows
/-! ### several dicts locked at once -/
def tLockNE (t : TE) : Nat → TE
  | 0 => t
  | n + 1 => tLockE (tLockNE t n)
theorem pe_lockN {X : Cx} {e : Expr} {t : TE} (h : PE X e t) : ∀ n, PE X e (tLockNE t n)
  | 0 => h
  | n + 1 => pe_lock (pe_lockN h n)
def tLocksE (t : TE) : TE := fun σ H Q => ∃ n, tLockNE t n σ H Q
theorem pe_locks {X : Cx} {e : Expr} {t : TE} (h : PE X e t) : PE X e (tLocksE t) := ⟨fun pins s σ H Q I ⟨n, hn⟩ => (pe_lockN h n).run pins s σ H Q I hn⟩
def tLockN (t : TS) : Nat → TS
  | 0 => t
  | n + 1 => tLock (tLockN t n)
theorem ps_lockN {X : Cx} {st : Stmt} {t : TS} (h : PS X st t) : ∀ n, PS X st (tLockN t n)
  | 0 => h
  | n + 1 => ps_lock (ps_lockN h n)
def tLocks (t : TS) : TS := fun D σ H => ∃ n, tLockN t n D σ H
theorem ps_locks {X : Cx} {st : Stmt} {t : TS} (h : PS X st t) : PS X st (tLocks t) := ⟨fun pins s σ H D I ⟨n, hn⟩ => (ps_lockN h n).run pins s σ H D I hn⟩
end L2
namespace L2
open PySem PySem.Spec PyProof.Rows
/-- a statement's value; a comprehension's scope -/
def stVal : Stmt → Expr
  | .Assign _ v _ => v
  | .Return (some v) _ => v
  | _ => .Name "" ⟨0, 0, 0, 0⟩
def cmpSc (d : Scope) : Expr → Scope
  | .ListComp _ _ s _ => s
  | .DictComp _ _ _ s _ => s
  | _ => d
/-! ### a dict that nobody else writes is locked for good -/
def tFrz (t : TE) : TE := fun σ H Q => t σ H fun x H1 => ∃ d u, x = .ref d ∧ H1 d = some u ∧ Mut (some u) ∧ ∀ od, Q (.ref d) (upd H1 d (.frz od u))
theorem pe_frz {X : Cx} {e : Expr} {t : TE} (h : PE X e t) : PE X e (tFrz t) := by
  refine ⟨fun pins s σ H Q I hw => ?_⟩
  refine thn (h.run pins s σ H _ I hw) fun v s1 ⟨x, H1, I1, r, d, u, ex, hd, mu, q⟩ => ?_
  subst ex
  obtain ⟨od, I2⟩ := I1.lock hd mu
  exact ⟨.ref d, _, I2, r, q od⟩
end L2
namespace L2
open PySem PySem.Spec PyProof.Rows
/-- within a comprehension the reading must not speak of the block's own context -/
theorem pi_listK {X : Cx} {tg l : Expr} {tl : TE} {K : PySem.W.Frag} (e : X.K = K) (hl : PE X l tl) : PI X tg l (iList K tl) := by
  subst e
  exact pi_list hl
theorem pg_tupK {X : Cx} {es : List Expr} {k : Nat} {pos : Pos} {t : TGs} {K : PySem.W.Frag} (n : Nat) (hc : X.calm = true) (e : X.K = K) (h : PGs X es t)
    (hn : (assignEach es X.env).length = n := by rfl) (hst : (assignEach es X.env).findIdx? (·.1) = none := by rfl) : PG X (.Tuple es k pos) (gTup K n t) := by
  subst e
  exact pg_tup hc h hn hst
theorem pi_tupK {X : Cx} {tg l : Expr} {tl : TE} {K : PySem.W.Frag} (e : X.K = K) (hl : PE X l tl) : PI X tg l (iTup K tl) := by
  subst e
  exact pi_tup hl
/-- tuple(list), tuple(tuple), told without the block -/
def rTupS (K : PySem.W.Frag) : List V → Hp → VK → Prop := fun xs H Q => ∃ p ys, xs = [.ref p] ∧ ((SqL K H p ys ∧ ∀ l, H l = none → Q (.ref l) (upd H l (.tup ys))) ∨ (SqT K H p ys ∧ Q (.ref p) H))
end L2
namespace L2
open PySem PySem.Spec PyProof.Rows
/-! ### == of dicts whose keys are tuples, and of dicts that hold such dicts -/
section
open PySem.W PySem.SeqAt
variable {prog : Program} {w : World} {κ : Type} [DecidableEq κ] {knd : HeapKind prog w κ} {A : Around} {E : Value → Shared → Prop} {s : Shared}
def pairH (x : κ × Addr × Value) : κ × Value := (x.1, x.2.2)
theorem valH (xs : List (κ × Addr × Value)) (k : κ) : valueAt (xs.map pairH) k = (atKey xs k).map (·.2) := by
  unfold valueAt atKey
  rw [List.find?_map]
  show ((xs.find? fun x => decide (x.1 = k)).map pairH).map (·.2) = _
  cases xs.find? (fun x => decide (x.1 = k)) <;> rfl
/-- what is left of the first dict's pairs, from the j-th on -/
def RestH (kb : List (κ × Addr × Value)) (ka : List (κ × Addr × Value)) (many : Nat) (out : Bool) (A : Around) (s : Shared) (todo : List Nat) : Prop :=
  ∃ j, todo = List.range' j (many - j) ∧ j ≤ many ∧ KeqHitsIn prog w A s (kb.map pairH) ((ka.drop j).map pairH) out
theorem range_step {x j many : Nat} {todo : List Nat} (h : x :: todo = List.range' j (many - j)) : j < many ∧ x = j ∧ todo = List.range' (j + 1) (many - (j + 1)) := by
  cases d : many - j with
  | zero =>
    rw [d] at h
    exact nomatch h
  | succ z =>
    rw [d, List.range'_succ] at h
    obtain ⟨h1, h2⟩ := List.cons.inj h
    exact ⟨by omega, h1, by rw [h2]; congr 1; omega⟩
theorem range_done {j many : Nat} (h : ([] : List Nat) = List.range' j (many - j)) (hj : j ≤ many) : j = many := by
  cases d : many - j with
  | zero => omega
  | succ z =>
    rw [d, List.range'_succ] at h
    exact nomatch h
theorem samePairsH {nm : String} {a b : Addr} {ka kb : List (κ × Addr × Value)} {r : Bool} {Q : Bool → Shared → Prop} (ha : (a == sysModules) = false) (hb : (b == sysModules) = false)
    (da : s.heap.DictOfH knd a ka) (db : s.heap.DictOfH knd b kb) (hu : knd.room A) (hits : ka.length = kb.length → KeqHitsIn prog w A s (kb.map pairH) (ka.map pairH) r) (h : Q (ka.length == kb.length && r) s) :
    wpAny (model prog w) A (Builtin.Dict.samePairs nm a b) Q E s := by
  obtain ⟨o1, tab1, c1, look1, _, dat1, lay1, key1, _⟩ := da
  obtain ⟨o2, tab2, c2, look2, _, dat2, lay2, key2, dif2⟩ := db
  have z1 := size_of_entries lay1
  have z2 := size_of_entries lay2
  have n1 : ¬ (a == sysModules) = true := by simp [ha]
  have n2 : ¬ (b == sysModules) = true := by simp [hb]
  unfold Builtin.Dict.samePairs Builtin.Dict.showsAll
  rw [if_neg n1, if_neg n2]
  refine wpAny_bind <| wpAny_pure <| wpAny_bind <| wpAny_pure <| wpAny_bind <| wpAny_dictEntries look1 dat1 ?_
  dsimp only
  refine wpAny_bind <| wpAny_dictEntries look2 dat2 ?_
  by_cases same : tab1.size = tab2.size
  · have q0 : Q r s := by
      have e : (ka.length == kb.length) = true := by rw [beq_iff_eq]; omega
      rw [e, Bool.true_and] at h
      exact h
    rw [if_neg (by simp [same])]
    refine wpAny_bind <| wpAny_dictEpoch look1 dat1 <| wpAny_bind ?_
    rw [Std.Legacy.Range.forIn_eq_forIn_range']
    simp only [Std.Legacy.Range.size, Nat.sub_zero, Nat.add_sub_cancel, Nat.div_one]
    refine wpAny_forIn_list _ (fun todo st s' => s' = s ∧ st = (none, ()) ∧ RestH (prog := prog) (w := w) kb ka tab1.size r A s todo) _ (fun x todo st s' hp => ?_) (fun st s' hp => ?_) _ _ ⟨rfl, rfl, 0, by simp, Nat.zero_le _, hits (by omega)⟩
    · obtain ⟨rfl, rfl, j, hj, _, rest⟩ := hp
      obtain ⟨lt, rfl, hj2⟩ := range_step hj
      have lt' : x < ka.length := by omega
      refine wpAny_bind <| wpAny_dictEntries look1 dat1 ?_
      have at1 : tab1[x]? = some (entryOfKey knd ka[x]) := by rw [entry_at lay1 x, List.getElem?_eq_getElem lt']; rfl
      rw [at1]
      have kx := key1 _ (List.getElem_mem lt')
      rw [List.drop_eq_getElem_cons lt', List.map_cons] at rest
      show wpAny _ _ (holding [Value.ref ka[x].2.1, ka[x].2.2] _ >>= _) _ _ _
      refine wpAny_bind <| wpAny_holding <| wpAny_bind <| wpAny_dictFind_heap hu kx look2 dat2 lay2 key2 dif2 (fun miss => ?_) (fun i p hit => ?_)
      · have hv : valueAt (kb.map pairH) ka[x].1 = none := by rw [valH, atKey_none_of_get miss]; rfl
        obtain ⟨_, rfl⟩ | ⟨y, _, _, hy, _⟩ := rest.inv
        · exact wpAny_pure (by rw [if_pos (by decide)]; exact wpAny_pure (wpAny_pure q0))
        · exact nomatch hv.symm.trans hy
      · have hv : valueAt (kb.map pairH) ka[x].1 = some p.2 := by rw [valH, atKey_of_get dif2 hit]; rfl
        refine wpAny_bind <| wpAny_dictEntries look2 dat2 ?_
        rw [entry_at lay2 i, hit]
        obtain ⟨hn, _⟩ | ⟨y, t, u, hy, heq, more, rfl⟩ := rest.inv
        · exact nomatch hn.symm.trans hv
        · cases hv.symm.trans hy
          refine wpAny_holding (heq _ _ ?_)
          cases t with
          | false =>
            rw [if_pos (by decide)]
            exact wpAny_pure (wpAny_pure q0)
          | true =>
            rw [if_neg (by decide)]
            refine wpAny_bind <| wpAny_dictEpoch look1 dat1 ?_
            rw [if_neg (by simp)]
            exact wpAny_pure ⟨rfl, rfl, x + 1, hj2, lt, more⟩
    · obtain ⟨rfl, rfl, j, hj, le, rest⟩ := hp
      have := range_done hj le
      rw [this, z1, List.drop_length] at rest
      cases rest
      exact wpAny_pure q0
  · have e : (ka.length == kb.length) = false := by rw [beq_eq_false_iff_ne]; omega
    rw [e, Bool.false_and] at h
    rw [if_pos (by simp [same])]
    exact wpAny_bind (wpAny_rule (wpAny_pure h))
theorem rcH_dicts {a b : Addr} {ka kb : List (κ × Addr × Value)} {r : Bool} {Q : Value → Shared → Prop} (ha : (a == sysModules) = false) (hb : (b == sysModules) = false)
    (da : s.heap.DictOfH knd a ka) (db : s.heap.DictOfH knd b kb) (hr : knd.room A.in1) (hu : A.units < cLine) (hits : ka.length = kb.length → KeqHitsIn prog w A.in1 s (kb.map pairH) (ka.map pairH) r) (h : Q (.bool (ka.length == kb.length && r)) s) : wpAny (model prog w) A (richCompare .Eq (.ref a) (.ref b)) Q E s := by
  have told : wpAny (model prog w) A.in1 (Builtin.Dict.samePairs "dict.__eq__" a b) (fun c s' => c = (ka.length == kb.length && r) ∧ s' = s) E s := samePairsH ha hb da db hr hits ⟨rfl, rfl⟩
  have ta := da.typeIs
  have tb := db.typeIs
  refine wpAny_richCompare_same_room (op := .Eq) ta tb PySem.F.slot_dict_eq (wpAny_call_entry PySem.F.slot_dict_eq ta PySem.F.entry_dict_eq (s := s) ?_ (PySem.F.args_dict_eq_2 _ _)) hu
  show wpAny _ _ (Builtin.Dict.dictSlotArgs "__eq__" ⟨[.ref a, .ref b], []⟩ >>= _) _ _ s
  unfold Builtin.Dict.dictSlotArgs
  refine wpAny_bind <| wpAny_bind <| wpAny_notOrdered_dict ta <| wpAny_pure <| wpAny_bind <| wpAny_isInstance (T := "dict") tb PySem.F.sub_dict_dict ?_
  simp only [Bool.not_true, Bool.false_eq_true, if_false]
  refine wpAny_bind <| wpAny_pure <| wpAny_bind <| wpAny_pure <| wpAny_bind <| wpAny_mono told (fun c s' e => ?_) fun _ _ z => z
  obtain ⟨rfl, rfl⟩ := e
  exact wpAny_pure ⟨_, rfl, (fun x => nomatch x), by simpa using h⟩
end
abbrev KRow := List Key
def rowsV (us : List KRow) : List (KRow × V) := us.map fun k => (k, V.bl true)
def hasR (ls : List KRow) (u : KRow) : Bool := ls.any fun k => decide (k = u)
theorem hasR_iff {ls : List KRow} {u : KRow} : hasR ls u = true ↔ u ∈ ls := by
  unfold hasR
  rw [List.any_eq_true]
  constructor
  · rintro ⟨x, hx, e⟩
    rw [← of_decide_eq_true e]
    exact hx
  · exact fun h => ⟨u, h, decide_eq_true rfl⟩
theorem hasR_no {ls : List KRow} {u : KRow} (h : u ∉ ls) : hasR ls u = false := by
  cases e : hasR ls u with
  | false => rfl
  | true => exact absurd (hasR_iff.mp e) h
def sameRows (us ls : List KRow) : Bool := us.length == ls.length && us.all fun k => hasR ls k
def rowsIn (H : Hp) (v : V) (us : List KRow) : Prop := ∃ q, v = .ref q ∧ H q = some (.dT (rowsV us))
theorem rowsV_inj {us ls : List KRow} (h : rowsV us = rowsV ls) : us = ls := by
  have := congrArg (List.map Prod.fst) h
  unfold rowsV at this
  rw [List.map_map, List.map_map] at this
  have e : ∀ l : List KRow, l.map ((fun x => x.1) ∘ fun k => (k, V.bl true)) = l := fun l => List.map_id l
  exact (e us).symm.trans (this.trans (e ls))
theorem sameRows_self (us : List KRow) : sameRows us us = true := by
  unfold sameRows
  rw [Bool.and_eq_true, List.all_eq_true]
  exact ⟨by simp, fun k hk => hasR_iff.mpr hk⟩
section
variable {X : Cx}
theorem hitsR {pw : Program} {w : World} {H : Hp} {A : Around} {s : Shared} {ls : List KRow} {kb : List (KRow × Addr × Value)} (rb : KT H (rowsV ls) kb) : ∀ {us : List KRow} {ka : List (KRow × Addr × Value)}, KT H (rowsV us) ka → PySem.W.KeqHitsIn pw w A s (kb.map pairH) (ka.map pairH) (us.all fun k => hasR ls k)
  | [], _, r => by cases r; exact .nil
  | u :: us, _, r => by
    cases r with
    | @cons _ q _ qs h t =>
      obtain ⟨h1, h2, h3⟩ := h
      have ih := hitsR (s := s) (A := A) (pw := pw) (w := w) rb t
      rw [List.all_cons, List.map_cons]
      have hv := rb.val u
      by_cases hm : u ∈ ls
      · rw [hasR_iff.mpr hm]
        have e1 : valV (rowsV ls) u = some (.bl true) := by
          clear hv ih rb
          unfold rowsV
          induction ls with
          | nil => cases hm
          | cons x xs ih =>
            rw [List.map_cons]
            by_cases e : x = u
            · unfold valV
              simp [e]
            · rcases List.mem_cons.mp hm with z | z
              · exact absurd z.symm e
              · have := ih z
                unfold valV at this ⊢
                rw [List.find?_cons_of_neg (by simp [e])]
                exact this
        rw [e1] at hv
        obtain ⟨y, hy, ry⟩ := hv.some_of
        refine .hit (v := q.2.2) (k := q.1) (y := y) (by rw [valH, ← h1]; exact hy) ?_ ih
        exact (eqAt_sameB h3 ry rfl).inModel _ _
      · rw [hasR_no hm, Bool.false_and]
        have e1 : valV (rowsV ls) u = none := by
          unfold valV
          rw [Option.map_eq_none_iff, List.find?_eq_none]
          intro x hx e
          obtain ⟨z, hz, rfl⟩ := List.mem_map.mp hx
          exact hm (by rw [← (show z = u from of_decide_eq_true e)]; exact hz)
        rw [e1] at hv
        have hn : (atKey kb u).map (·.2) = none := by
          cases e2 : (atKey kb u).map (·.2) with
          | none => rfl
          | some _ => rw [e2] at hv; exact (show False from hv).elim
        exact .miss (v := q.2.2) (k := q.1) (by rw [valH, ← h1]; exact hn)
theorem eqIn_rows {pins : List (Addr × Obj)} {σ : L2.St} {H : Hp} {s : Shared} {A : Around} (I : Inv X pins σ H s) (hu : A.units + 2 < cLine) {q q' : Addr} {us ls : List KRow} (h1 : H q = some (.dT (rowsV us))) (h2 : H q' = some (.dT (rowsV ls))) : PySem.SeqAt.EqIn X.prog X.w A s (.ref q) (.ref q') (sameRows us ls) := by
  by_cases e : q = q'
  · subst e
    rw [h1] at h2
    have : us = ls := rowsV_inj (HO.dT.inj (Option.some.inj h2))
    subst this
    rw [sameRows_self]
    exact (SeqAt.EqAt.same _).inModel _ _
  · obtain ⟨_, ya, va, ra, da⟩ := dt_of I.hok h1
    obtain ⟨_, yb, vb, rb, db⟩ := dt_of I.hok h2
    have la : va.length = us.length := by rw [← Paired.length ra]; unfold rowsV; rw [List.length_map]
    have lb : vb.length = ls.length := by rw [← Paired.length rb]; unfold rowsV; rw [List.length_map]
    refine PySem.SeqAt.EqIn.of_refs e fun E Q hq => rcH_dicts ya yb da db (show A.units + 1 < cLine by omega) (by omega) (fun _ => hitsR rb ra) ?_
    rw [la, lb]
    exact hq
def eqRR (D : V → List KRow) (ks ls : List (Key × V)) : Bool := (ks.length == ls.length) && ks.all fun p => match valV ls p.1 with
  | none => false
  | some v => sameRows (D p.2) (D v)
theorem hitsRR {pins : List (Addr × Obj)} {σ : L2.St} {H : Hp} {s : Shared} {A : Around} (I : Inv X pins σ H s) (hu : A.units + 2 < cLine) (D : V → List KRow) {ls : List (Key × V)} {vb : List (Key × Value)} (rb : KV ls vb) (hb : ∀ p ∈ ls, rowsIn H p.2 (D p.2)) {ks : List (Key × V)} {va : List (Key × Value)} (ra : KV ks va) :
    (∀ p ∈ ks, rowsIn H p.2 (D p.2)) → PySem.W.KeqHitsIn X.prog X.w A s vb va (ks.all fun p => match valV ls p.1 with
      | none => false
      | some v => sameRows (D p.2) (D v)) := by
  unfold KV at ra
  induction ra with
  | nil => intro _; exact .nil
  | @cons p q ps qs h t ih =>
    intro hp
    obtain ⟨h1, h2⟩ := h
    obtain ⟨k, v⟩ := q
    have h1' : p.1 = k := h1
    have rr := rb.val p.1
    have ih' := ih fun p' hm => hp p' (List.mem_cons_of_mem _ hm)
    rw [List.all_cons]
    cases e : valV ls p.1 with
    | none =>
      rw [e] at rr
      have hn : valueAt vb p.1 = none := by
        cases e2 : valueAt vb p.1 with
        | none => rfl
        | some _ => rw [e2] at rr; exact (show False from rr).elim
      rw [h1'] at hn
      exact .miss hn
    | some y =>
      rw [e] at rr
      obtain ⟨u, hy, ry⟩ := rr.some_of
      rw [h1'] at hy
      have hy2 : ∃ q ∈ ls, q.2 = y := by
        unfold valV at e
        cases e3 : ls.find? fun kv => decide (kv.1 = p.1) with
        | none => rw [e3] at e; cases e
        | some q => rw [e3] at e; exact ⟨q, List.mem_of_find?_eq_some e3, Option.some.inj e⟩
      obtain ⟨z, hz, rfl⟩ := hy2
      obtain ⟨q1, e1, g1⟩ := hp p List.mem_cons_self
      obtain ⟨q2, e2, g2⟩ := hb z hz
      have r1 : v = Value.ref q1 := by
        have : RelV p.2 v := h2
        rw [e1] at this
        exact this
      have r2 : u = Value.ref q2 := by
        rw [e2] at ry
        exact ry
      rw [r2] at hy
      have hh := eqIn_rows I hu g1 g2
      rw [← r1] at hh
      exact .hit hy hh ih'
def rEqRR : R2 := fun x y H Q => ∃ (a b : Addr) (ks ls : List (Key × V)) (D : V → List KRow), x = .ref a ∧ y = .ref b ∧ H a = some (.dK ks) ∧ H b = some (.dK ls) ∧ (∀ p ∈ ks, rowsIn H p.2 (D p.2)) ∧ (∀ p ∈ ls, rowsIn H p.2 (D p.2)) ∧ Q (.bl (eqRR D ks ls)) H
theorem op_eqRR {X : Cx} (hu : X.A.units + 65 < cLine) : OpR X (compareOp .Eq) rEqRR := by
  intro pins s σ H x y v u Q I rx ry h
  obtain ⟨a, b, ks, ls, D, rfl, rfl, ea, eb, ha, hb, q⟩ := h
  obtain rfl : v = Value.ref a := rx
  obtain rfl : u = Value.ref b := ry
  obtain ⟨_, ya, va, ra, da⟩ := (show ObjOk X.prog X.w H s.heap a (.dK ks) from I.hok a _ ea)
  obtain ⟨_, yb, vb, rb, db⟩ := (show ObjOk X.prog X.w H s.heap b (.dK ls) from I.hok b _ eb)
  refine PySem.W.keq_eqIn (knd := mixKind X.prog X.w) ya yb da db (by omega) (fun _ => hitsRR I (by show X.A.units + 1 + 2 < cLine; omega) D rb hb ra ha) (fin_bl I q ?_)
  unfold eqRR
  rw [ra.length, rb.length]
end
end L2
namespace TM
open PySem PySem.Spec PyProof.Rows L2
/-! ### try with several clauses 'except C as n' -/
/-- behind a clause the slot of its name is bare again -/
def gone (D : Ends) (i : Nat) : Ends := ⟨fun σ H => D.nx (σ.set i none) H, D.rt, fun σ H => D.bk (σ.set i none) H, fun σ H => D.ct (σ.set i none) H⟩
abbrev Clause := Value × Nat × (Addr → Value → Option Addr → TS)
/-- what the clauses wish of an exception, one after the other -/
def wish (K : PySem.W.Frag) (Wout : WX) (D : Ends) : List Clause → WX
  | [] => Wout
  | q :: rest => fun cls d σ H => ∃ b, PySem.W.exmOne K cls q.1 = some b ∧ (b = true → ∀ a, H a = none → q.2.2 a cls d (gone D q.2.1) (σ.set q.2.1 (some (.ref a))) H) ∧ (b = false → wish K Wout D rest cls d σ H)
inductive Clauses (X : Cx) : List ExceptHandler → List Clause → Prop
  | nil : Clauses X [] []
  | cons {x n : Str} {c : Value} {i : Nat} {ts : Addr → Value → Option Addr → TS} {b₀ : Stmt} {suite : List Stmt} {np cpos : Pos} {more : List ExceptHandler} {l : List Clause} (at_ : X.N[i]? = some n) (loc : X.env.kindOf n = some .local) (hc : Names X x c)
      (body : ∀ (a : Addr) (oe : Obj) (cls : Value) (d : Option Addr) (pn : List (Addr × Obj)), Zc cls d oe → (∃ vs, oe.data = .fields vs) → PSs (X.suite a ((a, oe) :: pn)) (b₀ :: suite) (ts a cls d)) (rest : Clauses X more l) :
      Clauses X (.ExceptHandler (some (.Name x np)) (some n) (b₀ :: suite) cpos :: more) ((c, i, ts) :: l)
theorem Clauses.one {X : Cx} {x n : Str} {c : Value} {i : Nat} {ts : Addr → Value → Option Addr → TS} {b₀ : Stmt} {suite : List Stmt} {np cpos : Pos} {more : List ExceptHandler} {l : List Clause} (rest : Clauses X more l) (at_ : X.N[i]? = some n) (loc : X.env.kindOf n = some .local) (hc : Names X x c)
    (body : ∀ (a : Addr) (oe : Obj) (cls : Value) (d : Option Addr) (pn : List (Addr × Obj)), Zc cls d oe → (∃ vs, oe.data = .fields vs) → PSs (X.suite a ((a, oe) :: pn)) (b₀ :: suite) (ts a cls d)) : Clauses X (.ExceptHandler (some (.Name x np)) (some n) (b₀ :: suite) cpos :: more) ((c, i, ts) :: l) := .cons at_ loc hc body rest
section
variable {X : Cx}
theorem ps_try_clauses {body : List Stmt} {h₀ : ExceptHandler} {hds : List ExceptHandler} {l : List Clause} {pos : Pos} {tb : WX → TS} {Wout : WX} (hs : X.stack = X.env :: X.outer) (hf : X.env.frame = some X.env.locals) (hN : X.N.Nodup) (tk : Takes X Wout)
    (hh : Clauses X (h₀ :: hds) l)
    (hb : ∀ (W : WX) (pn : List (Addr × Obj)) (xe : Value → Shared → Prop), Takes (X.tr pn xe) W → PassesOwn (model X.prog X.w) X.A X.env xe → PSs (X.tr pn xe) body (tb W)) :
    PS X (.Try body (h₀ :: hds) [] [] pos) (fun D σ H => tb (wish X.K Wout D l) D σ H) := by
  refine ⟨fun pins s σ H D I want => ?_⟩
  have iok := I.ok
  have frames : X.A.frames = some (X.env :: X.outer) := iok.frames.trans (by rw [hs])
  refine wpAny_Try_except (wpAny_mono ((hb (wish X.K Wout D l) (X.pn ++ pins) (fun e z₁ => wpAny (model X.prog X.w) X.A (noteFrame e X.env) (fun _ z₂ => wpAny (model X.prog X.w) X.A (setFlight e none) (fun _ z₃ =>
    wpAny (model X.prog X.w) X.A (handleBy e X.env (h₀ :: hds)) (SP X pins D) X.xe z₃) X.xe z₂) X.xe z₁) (fun thrown t caught => ?_) PassesOwn.looking).run [] s σ H D (I.toTry _) want) (fun out t fine => ?_) fun _ _ z => z)
  · obtain ⟨a, B, t0, pins', σ', H', cls, d, rfl, inv0, nb, up0, air, na, os, ag, wished⟩ := caught
    have inv : Inv X pins σ' H' t0 := inv0.ofTry iok
    rw [hs] at air
    show wpAny (model X.prog X.w) X.A (noteFrame (.ref a) X.env) _ _ _
    refine Sky.land Zc.steady frames hf air fun g fl upg => ?_
    have invg : Inv X pins σ' H' { t with heap := g } := inv.landed nb fl.1 (up0.trans upg) os ag
    obtain ⟨oe, us, oeg, zc, dat⟩ := fl.there
    have apart : a ∉ frs (X.env :: X.outer) := fun hm => by
      obtain ⟨_, o2, o2g, no⟩ := fl.2.2.1.mem hm
      cases oeg.symm.trans o2g
      exact no _ dat
    have out : ∀ e ∈ X.env :: X.outer, ∀ q, e.frame = some q → a ≠ q := fun e he q hq z => apart (List.mem_filterMap.mpr ⟨e, he, by rw [hq, z]⟩)
    have nloc : a ≠ X.env.locals := out _ List.mem_cons_self _ hf
    have nfs : a ∉ X.fs := fun hm => by
      obtain ⟨e, he, q⟩ := List.mem_filterMap.mp hm
      exact out e (List.mem_cons_of_mem _ he) a q rfl
    have su := invg.suite oeg dat na nloc nfs
    suffices go : ∀ {hd : List ExceptHandler} {cl : List Clause}, Clauses X hd cl → wish X.K Wout D cl cls d σ' H' → wpAny (model X.prog X.w) X.A (handleBy (.ref a) X.env hd) (SP X pins D) X.xe { t with heap := g } from go hh wished
    intro hd cl ok
    induction ok with
    | nil =>
      intro want
      refine wpAny_handleBy_nil ?_
      obtain ⟨_, _, _, oe', us', T, _, _, oeg', _, dat', first', _⟩ := id fl
      unfold PySem.passOn
      refine wpAny_bind (wpAny_field oeg' dat' first' ?_)
      have isT : ¬ ((Value.ref T == Value.none) = true) := by simp
      rw [if_neg isT]
      have thrown : wpAny (model X.prog X.w) X.A (setFlight (.ref a) X.env.frame) (fun _ z => wpAny (model X.prog X.w) X.A (throw (.ref a) : Sem Flow) (SP X pins D) X.xe z) X.xe { t with heap := g } := by
        rw [hf]
        exact HandSPX.setFlight_upZ fl fun g4 air4 up4 => wpAny_throw (tk _ _ ⟨a, B, t0, pins, σ', H', cls, d, rfl, inv, nb, (up0.trans upg).trans up4, .inr (.inr (by rw [hs]; exact air4)), na, os, ag, want⟩)
      first
        | exact wpAny_bind (wpAny_pure (wpAny_bind thrown))
        | exact wpAny_bind thrown
    | @cons x n c i ts b₀ suite np cpos more rest' at_ loc hc bodyOk rest ih =>
      intro want
      obtain ⟨b, told, yes, no⟩ := want
      refine wpAny_handleBy_cons (codeAny_handlers_test ?_) (by intro q; cases q)
      have look : PySem.W.Looks (model X.prog X.w) g (typeOf (.ref a)) cls := fun A Q E s k q => wpAny_typeOf_ref (k _ _ oeg) (by rw [zc.1]; exact q)
      have asked := PySem.W.exm_one (M := model X.prog X.w) invg.kIn look told
      have named : ∀ {Q : Value → Shared → Prop} {E : Value → Shared → Prop}, Q c { t with heap := g } → wpAny (model X.prog X.w) (X.A.mark (some (.ref a))) (eval (.Name x np) X.env) Q E { t with heap := g } := fun {Q E} q => by
        obtain ⟨hg, dbg, hm | ⟨hm, hv, nn⟩⟩ := hc
        · exact ld_glob (X := X.suite a ((a, oe) :: (X.pn ++ pins))) su hg hm q dbg
        · exact ld_blt (X := X.suite a ((a, oe) :: (X.pn ++ pins))) su hg hm hv q nn dbg
      refine named (asked.here ?_)
      cases b with
      | false => exact ih (no rfl)
      | true =>
        refine codeAny_handlers_suite_as (HandSPX.lands_againZ fl fun g4 fl4 up4 => ?_)
        have inv4 : Inv X pins σ' H' { t with heap := g4 } := inv.landed nb fl4.1 ((up0.trans upg).trans up4) os ag
        obtain ⟨oe4, us4, oeg4, zc4, dat4⟩ := fl4.there
        have su4 := inv4.suite oeg4 dat4 na nloc nfs
        refine store_ok (X := X.suite a ((a, oe4) :: (X.pn ++ pins))) (v := .ref a) su4 hN at_ (.inl loc) rfl (fun t5 su5 => ?_) (.inr loc)
        have bare : ∀ {σ6 : L2.St} {H6 : Hp} {t6 : Shared} {Q : Shared → Prop}, Inv (X.suite a ((a, oe4) :: (X.pn ++ pins))) [] σ6 H6 t6 → (∀ t7, Inv X pins (σ6.set i none) H6 t7 → Q t7) →
            wpAny (model X.prog X.w) X.A (do bindName X.env n .none; unbindBehindTheSuite X.env n cpos) (fun _ t7 => Q t7) X.xe t6 := fun {σ6 H6 t6 Q} su6 hq => gone_ok (su6.unsuite iok) hN at_ loc hq
        refine wpAny_mono ((bodyOk a oe4 cls d (X.pn ++ pins) zc4 ⟨_, dat4⟩).run [] t5 _ H' _ su5 (yes rfl a na)) (fun out t6 end6 => ?_) fun _ _ z => z.elim
        cases out with
        | next => obtain ⟨_, _, su6, q6⟩ := end6; exact bare su6 fun _ inv7 => ⟨_, _, inv7, q6⟩
        | brk => obtain ⟨_, _, su6, q6⟩ := end6; exact bare su6 fun _ inv7 => ⟨_, _, inv7, q6⟩
        | cont => obtain ⟨_, _, su6, q6⟩ := end6; exact bare su6 fun _ inv7 => ⟨_, _, inv7, q6⟩
        | ret u => obtain ⟨_, _, _, su6, r6, q6⟩ := end6; exact bare su6 fun _ inv7 => ⟨_, _, _, inv7, r6, q6⟩
  · cases out with
    | next => obtain ⟨_, _, inv, q⟩ := fine; exact wpAny_execs_nil ⟨_, _, inv.ofTry iok, q⟩
    | brk => obtain ⟨_, _, inv, q⟩ := fine; exact ⟨_, _, inv.ofTry iok, q⟩
    | cont => obtain ⟨_, _, inv, q⟩ := fine; exact ⟨_, _, inv.ofTry iok, q⟩
    | ret u => obtain ⟨_, _, _, inv, r, q⟩ := fine; exact ⟨_, _, _, inv.ofTry iok, r, q⟩
end
end TM
namespace L2
open PySem PySem.Spec PyProof.Rows
/-! ### C(), an own error without a def of its own that makes it -/
theorem pmk_own0 {X : Cx} {C : Addr} {bmB : List Value} {B newId initId : String} {x : Str} {p pos : Pos} (F : ExcBaseFacts B newId initId bmB) (q : PySem.W.excIn X.K C bmB newId = true) (gC : X.mg x = some (.ref C))
    (kC : PySem.W.keepIn X.K (.ref C) = true) (r : Raises X (.ref C)) (hg : Gl X x) (hdb : (x == ("__debug__" : Str)) = false := by decide) :
    PMk X (.Call (.Name x p) [] [] pos) (fun _ H Q => Q (.ref C) none H) := by
  intro pins s σ H Q I h
  refine wpAny_Call_Name_kw (ld_glob I hg gC ?_ hdb)
  refine PySem.W.callWith_K0 I.kIn kC ?_
  show wpAny _ _ (call (.ref C) []) _ _ _
  obtain ⟨bm, N, nm, qn, bs, hdct, sn, sub, ab, col, dd, k0, k1, k2, k3, k5, mN, hC, hN, hni, T⟩ := exc_obj I.kIn q
  exact wpAny_call_exc_subT F T hC hN hni (fun h' e hm => mk_of I hm r h (I.hok.gone hm.new)) (Nat.zero_le _)
end L2
namespace L2
open PySem PySem.Spec PyProof.Rows
/-! ### a != b of two objects whose class has its own ==, and no own != -/
section
variable {M : Model} {prog : Program} {w : World} {A : Around} {E : Value → Shared → Prop} {s : Shared} {K : PySem.W.Frag} {x y C f : Addr} {ox : Obj} {od : Option Obj}
theorem ne_asked {args : List Value} {Q : Option Value → Shared → Prop} (X : K.In s.heap) (I : PySem.W.InstAt s.heap x ox C od) (hs : PySem.W.findIn K (.ref C) "__ne__" = some (some (.builtin "object.__ne__")))
    (h : wpAny M A (call (.builtin "object.__ne__") (.ref x :: args)) (fun v => Q (some v)) E s) : wpAny M A (callSpecialIfBound? (.ref x) "__ne__" args) Q E s := by
  simp only [callSpecialIfBound?, bindSpecialIfBound?]
  have tail : wpAny M A (call (.builtin "object.__ne__") ([.ref x] ++ args) >>= fun v => pure (some v)) Q E s := wpAny_bind (wpAny_mono h (fun _ _ q => wpAny_pure q) fun _ _ q => q)
  refine wpAny_holding (wpAny_bind (wpAny_bind (wpAny_bind (I.type.here ((PySem.W.looks_findIn X hs).here (wpAny_bind (wpAny_askSetting (wpAny_ite ?_))))))))
  split
  case isFalse => exact wpAny_tryCatch (wpAny_bind (wpAny_of_eq (F.cmp_object.ne.bind _) (wpAny_pure (by exact tail))))
  case isTrue => exact wpAny_bind (wpAny_of_eq (F.cmp_object.ne.bind _) (wpAny_pure (by exact tail)))
theorem ne_told {Q : Fin → Shared → Prop} (X : K.In s.heap) (I : PySem.W.InstAt s.heap x ox C od) (hu : A.units < cLine) (hs : PySem.W.findIn K (.ref C) "__eq__" = some (some (.ref f))) (hf : PySem.W.isFn K (.ref f) = true)
    (h : wpAny (model prog w) A (call (.ref f) [.ref x, .ref y]) (fun v s' => ∃ b, v = .bool b ∧ Q (.done (.ret (.bool (!b)))) s') E s) : wpAny (model prog w) A (Builtin.«object.__ne__» ⟨[.ref x, .ref y], []⟩) Q E s := by
  unfold Builtin.«object.__ne__»
  repeat (first
    | with_reducible refine wpAny_cRoomFor hu ?_
    | (refine wpAny_bind (m := callSpecialIfBound? (.ref x) (Str.ofString "__eq__") [.ref y]) (PySem.W.ifBound_K X I hs hf (wpAny_mono h (fun v s' hv => by
        obtain ⟨b, rfl, q⟩ := hv
        repeat (first | exact q | exact wpAny_pure q | (refine wpAny_bind (m := truthy (.bool _)) (wpAny_truthy_bool ?_)) | wp_step)) fun _ _ e => e)))
    | wp_step)
theorem ne_one {Q : Option Value → Shared → Prop} (X : K.In s.heap) (I : PySem.W.InstAt s.heap x ox C od) (hu : A.units + 1 < cLine) (hm : PySem.W.mroIn K C (.type "object") = some true) (hn : PySem.W.findIn K (.ref C) "__ne__" = some (some (.builtin "object.__ne__"))) (hs : PySem.W.findIn K (.ref C) "__eq__" = some (some (.ref f))) (hf : PySem.W.isFn K (.ref f) = true)
    (h : wpAny (model prog w) A.in1 (call (.ref f) [.ref x, .ref y]) (fun v s' => ∃ b, v = .bool b ∧ Q (some (.bool (!b))) s') E s) : wpAny (model prog w) A (tryCompare (.ref x) "__ne__" (.ref y)) Q E s := by
  simp only [tryCompare]
  refine wpAny_bind (ne_asked X I hn (wpAny_call (codeAny_call_builtin F.cmp_object.ne.plain F.cmpEntry_ne (PySem.W.check_slot F.cmpKind_ne F.cmpSplit_ne (I.type.andThen (PySem.W.looks_mroIn X hm)) (F.cmpArgs_ne _ _)
    (ne_told (A := A.in1) X I hu hs hf (wpAny_mono h (fun v s' hv => ?_) fun _ _ e => e))))))
  obtain ⟨b, rfl, q⟩ := hv
  first | exact ⟨b, rfl, wpAny_pure q⟩ | exact ⟨b, rfl, wpAny_pure (wpAny_pure q)⟩ | exact ⟨b, rfl, q⟩
theorem ne_rich {oy : Obj} {od' : Option Obj} {Q : Value → Shared → Prop} (X : K.In s.heap) (I : PySem.W.InstAt s.heap x ox C od) (J : PySem.W.InstAt s.heap y oy C od') (hu : A.units + 1 < cLine) (hm : PySem.W.mroIn K C (.type "object") = some true) (hn : PySem.W.findIn K (.ref C) "__ne__" = some (some (.builtin "object.__ne__"))) (hs : PySem.W.findIn K (.ref C) "__eq__" = some (some (.ref f))) (hf : PySem.W.isFn K (.ref f) = true)
    (h : wpAny (model prog w) A.in1 (call (.ref f) [.ref x, .ref y]) (fun v s' => ∃ b, v = .bool b ∧ Q (.bool (!b)) s') E s) : wpAny (model prog w) A (compareOp .NotEq (.ref x) (.ref y)) Q E s := by
  unfold compareOp richCompare
  simp only [oneThing_ref]
  refine wpAny_holding (wpAny_bind (wpAny_cRoomFor (Nat.lt_of_succ_lt hu) ?_))
  rw [cmpInfo_NotEq]
  dsimp only
  refine wpAny_bind (I.type.here (wpAny_bind (J.type.here ?_)))
  rw [show (Value.ref C != Value.ref C) = false from by simp]
  simp only [Bool.false_eq_true, if_false]
  refine wpAny_bind (wpAny_pure ?_)
  simp only [Bool.false_eq_true, if_false]
  refine wpAny_bind (ne_one X I hu hm hn hs hf (wpAny_mono h (fun v s' hv => ?_) fun _ _ e => e))
  obtain ⟨b, rfl, q⟩ := hv
  first | exact ⟨b, rfl, wpAny_pure q⟩ | exact ⟨b, rfl, wpAny_pure (wpAny_pure q)⟩
end
def rNeO (C : Addr) (sp : Sp) (E : XK) : R2 := fun x y H Q => ∃ (a b dx dy : Addr) (fs gs : List (Str × V)), x = .ref a ∧ y = .ref b ∧ H a = some (.ins C dx fs) ∧ H b = some (.ins C dy gs) ∧ sp [.ref a, .ref b] H (fun v H' => ∃ c, v = .bl c ∧ Q (.bl (!c)) H') E
theorem op_neO {X : Cx} {CX : CXT} {n : Nat} {C f : Addr} {fd : FuncData} {ps : List Str} {sp : Sp} {E : XK} (F : FnOk X.prog X.w X.K X.mg X.base CX n f fd ps sp) (hrm : Room (n + 1) X.A) (hu : X.A.units + 1 < cLine)
    (hm : PySem.W.mroIn X.K C (.type "object") = some true) (hn : PySem.W.findIn X.K (.ref C) "__ne__" = some (some (.builtin "object.__ne__"))) (hs : PySem.W.findIn X.K (.ref C) "__eq__" = some (some (.ref f))) (hf : PySem.W.isFn X.K (.ref f) = true) (hb : Binds X.K fd ps []) (hx : Passes CX X E) : OpR X (compareOp .NotEq) (rNeO C sp E) := by
  intro pins s σ H x y v u Q I rx ry h
  obtain ⟨a, b, dx, dy, fs, gs, rfl, rfl, ha, hb', hsp⟩ := h
  cases rx
  cases ry
  obtain ⟨mA, J, _⟩ := ins_get I.hok ha
  obtain ⟨mB, J', _⟩ := ins_get I.hok hb'
  obtain ⟨od, J, _⟩ := J.look
  obtain ⟨od', J', _⟩ := J'.look
  refine ne_rich I.kIn J J' hu hm hn hs hf (wpAny_mono (run_fn1 (E := fun _ => E) F hrm hb (pAt hx σ) I (us := [.ref a, .ref b]) (vs := [.ref a, .ref b]) (.cons rfl (.cons rfl .nil)) hsp) (fun r s' q => ?_) fun _ _ z => z)
  obtain ⟨w, H', I', rw', c, ew, q⟩ := q
  subst ew
  cases rw'
  exact ⟨c, rfl, .bl (!c), H', I', rfl, q⟩
end L2
namespace L2
open PySem PySem.Spec PyProof.Rows
/-- x = {..} on one line, x a local, the keys names or numbers -/
theorem ps_setDc {X : Cx} {i : Nat} {y : Str} {py : Pos} {kx vx tg iter : Expr} {ifs : List Expr} {scope : Scope} {own : List (Str × Nat)} {pos spos : Pos} {wi : TI} {g : TG} {tt : TT} {tk tv : TE} (hc : X.calm = true) (hN : X.N.Nodup) (hy : X.N[i]? = some y) (hyl : X.env.scope.names.lookup y = some .local)
    (hsw : swapsWith (.DictComp kx vx [⟨tg, iter, ifs, 0⟩] scope pos) (some (.Name y py)) spos.line X.env = pure true) (hi : PI X tg iter wi) (ok : BlkOk X.N X.env.scope scope own)
    (hg : ∀ s H C cl fp, PG (X.blk s H scope (compEnvC scope cl C X.env) fp) tg g) (ht : ∀ s H C cl fp, PTs (X.blk s H scope (compEnvC scope cl C X.env) fp) ifs tt)
    (hk : ∀ s H C cl fp, PE (X.blk s H scope (compEnvC scope cl C X.env) fp) kx tk) (he : ∀ s H C cl fp, PE (X.blk s H scope (compEnvC scope cl C X.env) fp) vx tv) (hs : ∀ x, foldedSetIterable iter X.env x = pure x := by intro _; rfl) :
    PS X (.Assign [.Name y py] (.DictComp kx vx [⟨tg, iter, ifs, 0⟩] scope pos) spos) (tAsg (tDc wi g tt tk tv (own.map (·.2))) (gName i)) := by
  refine ⟨fun pins s σ H D I h => ?_⟩
  rw [exec_Assign_Name_used _ _ _ _ hsw]
  refine wpAny_bind (wpAny_standAt (wpAny_bind ?_))
  show wpAny _ X.A (do let _ ← comprehension (.DictComp kx vx [⟨tg, iter, ifs, 0⟩] scope pos) scope X.env (firstIterPos [⟨tg, iter, ifs, 0⟩] pos) newDict false (eval iter X.env) (some (assign (.Name y py) X.env))) _ _ s
  have h : tDc wi g tt tk tv (own.map (·.2)) σ H (fun x H1 => gName i x σ H1 D.nx) := h
  refine wpAny_bind (thn (dc_core (Qf := fun _ s' => SP X pins D .next s') hc hN I hi ok hg ht hk he hs h fun L C s' m H' I' q hn f => ?_) fun _ s' hq => wpAny_pure (wpAny_pure hq))
  show wpAny _ _ (assign (.Name y py) X.env (.ref L)) _ _ _
  refine wpAny_assign_Name (store_ok2 (v := V.ref L) I' hN hy (.inl hyl) rfl (fun s2 I2 ⟨a, sb, ha⟩ => ?_) (.inr hyl))
  obtain ⟨f0, f1, f2, f3, f4, f5⟩ := f
  refine ⟨m, hn.sameBut sb (fun e => ha.elim (fun z => f1 (e.trans z)) fun z => f4 y a z e.symm), fun h3 sb3 => ?_⟩
  exact ⟨_, H', I2.turned (t' := s2.toks) (fun b o hb e => (sb3.2 b hb).trans e) f0 f1 f3 f4 f5, q⟩
end L2
namespace L2
open PySem PySem.Spec PyProof.Rows
/-- o.f, told without the block -/
theorem pe_fldK {X : Cx} {K : PySem.W.Frag} {e : Expr} {f : Str} {pos : Pos} {ta : TE} (hK : X.K = K) (he : PE X e ta) (hb : attributeBase e f X.env (eval e X.env) = eval e X.env) : PE X (.Attribute e f pos) (tFld K ta f) := by
  subst hK
  exact pe_fld he hb
end L2
namespace L2
open PySem PySem.Spec PyProof.Rows
/-! ### texts: one call for things of two kinds -/
theorem call_orC {X : Cx} {f : Value} {r1 r2 : List V → Hp → VK → Prop} (h1 : CallR X f r1) (h2 : CallR X f r2) : CallR X f (fun xs H Q => r1 xs H Q ∨ r2 xs H Q) := fun pins s σ H xs us Q I r h => h.elim (h1 pins s σ H xs us Q I r) (h2 pins s σ H xs us Q I r)
theorem pi_or {X : Cx} {tg e : Expr} {t1 t2 : TI} (h1 : PI X tg e t1) (h2 : PI X tg e t2) : PI X tg e (fun σ H k => t1 σ H k ∨ t2 σ H k) := ⟨fun pins s σ H R I h => h.elim (h1.run pins s σ H R I) (h2.run pins s σ H R I)⟩
end L2
namespace L2
open PySem PySem.Spec PyProof.Rows
/-! ### a call of a local name that holds one of several defs, which may raise -/
structure HeldX (P : Program) (w : World) (K : PySem.W.Frag) (mg : Str → Option Value) (base : Heap) (CX : CXT) (k : Nat) (f : Addr) (sp : Sp) : Prop where
  ex : ∃ (fd : FuncData) (ps : List Str), FnOk P w K mg base CX k f fd ps sp ∧ PySem.W.keepIn K (.ref f) = true ∧ Binds K fd ps []
def tCallAX (i : Nat) (S : Addr → Sp → Prop) (E : XK) (t : TA) : TE := fun σ H Q => ∃ f sp, σ[i]? = some (some (.ref f)) ∧ S f sp ∧ t σ H fun vs H1 => sp (vs ++ []) H1 Q E
theorem pe_callAX {X : Cx} {CX : CXT} {k i : Nat} {E : XK} {x : Str} {p pos : Pos} {e : Expr} {es : List Expr} {t : TA} {S : Addr → Sp → Prop} (A : ∀ f sp, S f sp → HeldX X.prog X.w X.K X.mg X.base CX k f sp) (hr : Room k X.A) (hN : X.N[i]? = some x) (hv : Vis X.env.scope x) (hx : Passes CX X E) (ha : PA X (e :: es) t)
    (hdb : (x == ("__debug__" : Str)) = false := by decide) (hcd : (x == ("__classdict__" : Str)) = false := by decide)
    (he : starEach (e :: es) X.env = (false, eval e X.env) :: starEach es X.env := by rfl) (hpl : (backTo pos (starEach es X.env)).any (·.1) = false := by rfl) : PE X (.Call (.Name x p) (e :: es) [] pos) (tCallAX i S E t) := by
  refine ⟨fun pins s σ H Q I h => ?_⟩
  obtain ⟨f, sp, hs, hS, ht⟩ := h
  obtain ⟨fd, ps, F, hk, hb⟩ := (A f sp hS).ex
  exact (pe_callL (i := i) (f := f) (sp := sp) (dvs := []) (E := E) F hr hN hv hk hb .nil hx ha hdb hcd he hpl).run pins s σ H Q I ⟨hs, ht⟩
end L2
namespace L2
open PySem PySem.Spec PyProof.Rows
/-! ### o.f as one of several targets; d.get(k) of a dict that the module wrote -/
def gFld (K : PySem.W.Frag) (to : TE) (f : Str) : TG := fun v σ H Q => to σ H fun x H1 => ∃ (a C dx : Addr) (fs : List (Str × V)), x = .ref a ∧ H1 a = some (.ins C dx fs) ∧ Cls K C ∧ NoAttr K C f ∧ fs.length < 1000 ∧ Q σ (upd H1 a (.ins C dx (putF f v fs)))
theorem pg_fld {X : Cx} {o : Expr} {to : TE} {f : Str} {pos : Pos} (ho : PE X o to) : PG X (.Attribute o f pos) (gFld X.K to f) := by
  refine ⟨fun pins s σ H v u Q I r h => ?_⟩
  rw [arm_assign_Attribute]
  refine wpAny_bind (wpAny_holding (thn (ho.run pins s σ H _ I h) fun ov s1 ⟨x, H1, I1, r1, a, C, dx, fs, ex, ea, c, n, l, q1⟩ => ?_))
  subst ex
  obtain rfl : ov = Value.ref a := r1
  refine wpAny_bind (wpAny_standAt (wpAny_bind (wpAny_holding (setattr_ok I1 ea c n l r fun s3 I3 => ?_))))
  exact wpAny_release ⟨σ, _, I3, q1⟩
/-- a dict of the module, its keys texts -/
def WDct (K : PySem.W.Frag) (w : World) (a : Addr) : Prop := ∃ es n, K.lookup a = some ⟨.type "dict", none, .dict es n, #[]⟩ ∧ PySem.W.KeysLit w.params es.toList ∧ (a == sysModules) = false
def tWGet (K : PySem.W.Frag) (w : World) (to te : TE) : TE := fun σ H Q => to σ H fun x H1 => ∃ p, x = .ref p ∧ WDct K w p ∧ te σ H1 fun y H2 => ∃ (z : Str), y = .str z ∧
  ((∃ v u, PySem.W.nsIn K p z = some (some u) ∧ RelV v u ∧ Q v H2) ∨ (PySem.W.nsIn K p z = some none ∧ Q .non H2))
theorem pe_wget1 {X : Cx} {o e : Expr} {to te : TE} {apos cpos : Pos} (ho : PE X o to) (he : PE X e te) (m : M1 X o "get" apos e cpos) : PE X (.Call (.Attribute o "get" apos) [e] [] cpos) (tWGet X.K X.w to te) := by
  refine ⟨fun pins s σ H Q I h => ?_⟩
  refine wpAny_Call_method m.base m.few m.line PySem.F.plainAttrs_dict PySem.F.slot_dict_get PySem.F.type_dict_get (thn (ho.run pins s σ H _ I h) fun u s1 ⟨x, H1, I1, rx, p, ex, ⟨es, n, hl, hk, hd⟩, q1⟩ => ?_)
  subst ex
  obtain rfl : u = Value.ref p := rx
  have hm := PySem.W.mapOf_K (prog := X.prog) (w := X.w) I1.kIn hl hk
  refine ⟨hm.typeIs, hm.noDict, ?_⟩
  rw [m.trees]
  refine Calls.callWith_builtin rfl (Calls.evalArgs_plain (Calls.spliced_cons (thn (he.run pins s1 σ H1 _ I1 q1) fun iv s2 ⟨y, H2, I2, ry, z, ey, q2⟩ => Calls.spliced_nil ?_)))
  subst ey
  obtain ⟨t, rfl⟩ := (show ∃ t, iv = Value.str z t from ry)
  have hm2 := PySem.W.mapOf_K (prog := X.prog) (w := X.w) I2.kIn hl hk
  refine call_meetsIn PySem.F.slot_dict_get hm2.typeIs PySem.F.entry_dict_get (PySem.F.args_dict_get_2 _ _) (meets_dict_get (strKind X.prog X.w) p (strKind_is X.prog X.w z t) hd) ⟨_, hm2, ?_⟩
  rcases q2 with ⟨v, u0, e, ru, q⟩ | ⟨e, q⟩
  · have := PySem.W.find_K hl e
    refine ⟨v, H2, I2.tok _, ?_, q⟩
    show RelV v ((findBy Value.isStrOf es z).getD .none)
    rw [this]
    exact ru
  · have := PySem.W.find_K hl e
    refine ⟨.non, H2, I2.tok _, ?_, q⟩
    show RelV .non ((findBy Value.isStrOf es z).getD .none)
    rw [this]
    rfl
end L2
namespace L2
open PySem PySem.Spec PyProof.Rows
/-! ### xs != [], whatever stands in xs -/
def rNeE : R2 := fun x y H Q => ∃ (p q : Addr) (xs : List V), x = .ref p ∧ y = .ref q ∧ H p = some (.lst xs) ∧ H q = some (.lst []) ∧ Q (.bl (!xs.isEmpty)) H
theorem op_neE {X : Cx} (hu : X.A.units < cLine) : OpR X (compareOp .NotEq) rNeE := by
  intro pins s σ H x y v u Q I rx ry h
  obtain ⟨p, p', xs, rfl, rfl, hp, hq, q⟩ := h
  cases rx
  cases ry
  obtain ⟨_, its, n1, rv, ht⟩ := (show ObjOk X.prog X.w H s.heap p (.lst xs) from I.hok _ _ hp)
  obtain ⟨_, its', n2, rv', ht'⟩ := (show ObjOk X.prog X.w H s.heap p' (.lst []) from I.hok _ _ hq)
  have e1 : s.heap.IsList p its.toArray := ⟨_, ht, rfl, n1, rfl⟩
  have e2 : s.heap.IsList p' its'.toArray := ⟨_, ht', rfl, n2, rfl⟩
  have l1 : its.toArray.size = xs.length := by rw [List.size_toArray, ← Vals.length rv]
  have l2 : its'.toArray.size = 0 := by rw [List.size_toArray, ← Vals.length rv']; rfl
  cases xs with
  | nil => 
    have l1 : its.toArray.size = 0 := l1
    refine (SeqAt.RcNeAt.lists (A := X.A) (e := fun _ => true) e1 e2 (by rw [l1, l2]) hu (fun j h1 h2 => by omega)) X.prog X.w _ _ (fin_bl I q ?_)
    rw [l1]
    rfl
  | cons z zs =>
    refine (SeqAt.RcNeAt.lists_lengths (A := X.A) e1 e2 ?_ hu) X.prog X.w _ _ (fin_bl I q rfl)
    rw [l1, l2]
    rfl
end L2
namespace My
open PySem PySem.Spec PyProof.Rows L2
def topS (i : Nat) : Stmt := PySem.Challenge.pw_cappedcalls_k69_lines_of_questions.main.body.getD i (.Pass ⟨0, 0, 0, 0⟩)
abbrev s_InvalidQuestion___init__ : Stmt := inClass (topS 7) 0
theorem sc_InvalidQuestion___init__ : FnScope ["self", "part", "at"] ["self", "part", "at"] (defScope s_InvalidQuestion___init__) := ⟨rfl, rfl, rfl, by decide +kernel, rfl, by decide +kernel, by decide +kernel⟩
abbrev s_is_plain_int : Stmt := topS 12
theorem sc_is_plain_int : FnScope ["thing"] ["thing"] (defScope s_is_plain_int) := ⟨rfl, rfl, rfl, by decide +kernel, rfl, by decide +kernel, by decide +kernel⟩
abbrev s_is_word : Stmt := topS 13
theorem sc_is_word : FnScope ["thing", "letter"] ["thing"] (defScope s_is_word) := ⟨rfl, rfl, rfl, by decide +kernel, rfl, by decide +kernel, by decide +kernel⟩
abbrev s_is_value : Stmt := topS 14
theorem sc_is_value : FnScope ["thing"] ["thing"] (defScope s_is_value) := ⟨rfl, rfl, rfl, by decide +kernel, rfl, by decide +kernel, by decide +kernel⟩
abbrev s_is_variable : Stmt := topS 16
theorem sc_is_variable : FnScope ["thing"] ["thing"] (defScope s_is_variable) := ⟨rfl, rfl, rfl, by decide +kernel, rfl, by decide +kernel, by decide +kernel⟩
abbrev s_is_term : Stmt := topS 17
theorem sc_is_term : FnScope ["thing"] ["thing"] (defScope s_is_term) := ⟨rfl, rfl, rfl, by decide +kernel, rfl, by decide +kernel, by decide +kernel⟩
abbrev s_term_variables : Stmt := topS 18
theorem sc_term_variables : FnScope ["terms", "term"] ["terms"] (defScope s_term_variables) := ⟨rfl, rfl, rfl, by decide +kernel, rfl, by decide +kernel, by decide +kernel⟩
abbrev s_atom_variables : Stmt := topS 19
theorem sc_atom_variables : FnScope ["atoms", "_", "terms", "term"] ["atoms"] (defScope s_atom_variables) := ⟨rfl, rfl, rfl, by decide +kernel, rfl, by decide +kernel, by decide +kernel⟩
abbrev s__is_count : Stmt := topS 32
theorem sc__is_count : FnScope ["thing", "most"] ["thing", "most"] (defScope s__is_count) := ⟨rfl, rfl, rfl, by decide +kernel, rfl, by decide +kernel, by decide +kernel⟩
abbrev s__is_name_in : Stmt := topS 33
theorem sc__is_name_in : FnScope ["thing", "names"] ["thing", "names"] (defScope s__is_name_in) := ⟨rfl, rfl, rfl, by decide +kernel, rfl, by decide +kernel, by decide +kernel⟩
abbrev s__are_columns : Stmt := topS 34
theorem sc__are_columns : FnScope ["thing", "width", "least", "column"] ["thing", "width"] (defScope s__are_columns) := ⟨rfl, rfl, rfl, by decide +kernel, rfl, by decide +kernel, by decide +kernel⟩
abbrev s__is_key : Stmt := topS 35
theorem sc__is_key : FnScope ["thing", "width"] ["thing", "width"] (defScope s__is_key) := ⟨rfl, rfl, rfl, by decide +kernel, rfl, by decide +kernel, by decide +kernel⟩
abbrev s__is_service : Stmt := topS 36
theorem sc__is_service : FnScope ["thing", "tables", "table", "given", "cap"] ["thing", "tables"] (defScope s__is_service) := ⟨rfl, rfl, rfl, by decide +kernel, rfl, by decide +kernel, by decide +kernel⟩
abbrev s__is_whole_service : Stmt := topS 37
theorem sc__is_whole_service : FnScope ["service", "tables", "keys", "table", "given", "cap", "column"] ["service", "tables", "keys"] (defScope s__is_whole_service) := ⟨rfl, rfl, rfl, by decide +kernel, rfl, by decide +kernel, by decide +kernel⟩
abbrev s__check_tables : Stmt := topS 38
theorem sc__check_tables : FnScope ["tables", "name"] ["tables"] (defScope s__check_tables) := ⟨rfl, rfl, rfl, by decide +kernel, rfl, by decide +kernel, by decide +kernel⟩
abbrev s__check_keys : Stmt := topS 39
theorem sc__check_keys : FnScope ["keys", "tables", "name"] ["keys", "tables"] (defScope s__check_keys) := ⟨rfl, rfl, rfl, by decide +kernel, rfl, by decide +kernel, by decide +kernel⟩
abbrev s__check_services : Stmt := topS 40
theorem sc__check_services : FnScope ["services", "tables", "name"] ["services", "tables"] (defScope s__check_services) := ⟨rfl, rfl, rfl, by decide +kernel, rfl, by decide +kernel, by decide +kernel⟩
abbrev s__check_capped : Stmt := topS 41
theorem sc__check_capped : FnScope ["services", "tables", "keys", "capped_tables", "name", "service"] ["services", "tables", "keys"] (defScope s__check_capped) := ⟨rfl, rfl, rfl, by decide +kernel, rfl, by decide +kernel, by decide +kernel⟩
abbrev s__copied : Stmt := topS 42
theorem sc__copied : FnScope ["things", "name"] ["things"] (defScope s__copied) := ⟨rfl, rfl, rfl, by decide +kernel, rfl, by decide +kernel, by decide +kernel⟩
abbrev s_Schema___init__ : Stmt := inClass (topS 43) 0
theorem sc_Schema___init__ : FnScope ["self", "tables", "keys", "services"] ["self", "tables", "keys", "services"] (defScope s_Schema___init__) := ⟨rfl, rfl, rfl, by decide +kernel, rfl, by decide +kernel, by decide +kernel⟩
abbrev s_Schema_tables : Stmt := inClass (topS 43) 1
theorem sc_Schema_tables : FnScope ["self"] ["self"] (defScope s_Schema_tables) := ⟨rfl, rfl, rfl, by decide +kernel, rfl, by decide +kernel, by decide +kernel⟩
abbrev s_Schema___eq__ : Stmt := inClass (topS 43) 4
theorem sc_Schema___eq__ : FnScope ["self", "other"] ["self", "other"] (defScope s_Schema___eq__) := ⟨rfl, rfl, rfl, by decide +kernel, rfl, by decide +kernel, by decide +kernel⟩
abbrev s__is_atom : Stmt := topS 49
theorem sc__is_atom : FnScope ["thing"] ["thing"] (defScope s__is_atom) := ⟨rfl, rfl, rfl, by decide +kernel, rfl, by decide +kernel, by decide +kernel⟩
abbrev s__has_form : Stmt := topS 50
theorem sc__has_form : FnScope ["part", "head", "atoms", "atom"] ["part"] (defScope s__has_form) := ⟨rfl, rfl, rfl, by decide +kernel, rfl, by decide +kernel, by decide +kernel⟩
abbrev s__are_terms : Stmt := topS 51
theorem sc__are_terms : FnScope ["terms", "many", "term"] ["terms", "many"] (defScope s__are_terms) := ⟨rfl, rfl, rfl, by decide +kernel, rfl, by decide +kernel, by decide +kernel⟩
abbrev s__wrong_part : Stmt := topS 52
theorem sc__wrong_part : FnScope ["tables", "width", "part", "head", "atoms", "bound", "name", "_", "terms", "variable"] ["tables", "width", "part"] (defScope s__wrong_part) := ⟨rfl, rfl, rfl, by decide +kernel, rfl, by decide +kernel, by decide +kernel⟩
abbrev s__check_question : Stmt := topS 53
theorem sc__check_question : FnScope ["schema", "width", "parts", "tables", "at", "part", "wrong"] ["schema", "width", "parts"] (defScope s__check_question) := ⟨rfl, rfl, rfl, by decide +kernel, rfl, by decide +kernel, by decide +kernel⟩
abbrev s_Question___init__ : Stmt := inClass (topS 57) 0
theorem sc_Question___init__ : FnScope ["self", "schema", "width", "parts", "head", "atoms"] ["self", "schema", "width", "parts"] (defScope s_Question___init__) := ⟨rfl, rfl, rfl, by decide +kernel, rfl, by decide +kernel, by decide +kernel⟩
abbrev s_Question_part_list : Stmt := inClass (topS 57) 1
theorem sc_Question_part_list : FnScope ["self", "head", "atoms"] ["self"] (defScope s_Question_part_list) := ⟨rfl, rfl, rfl, by decide +kernel, rfl, by decide +kernel, by decide +kernel⟩
abbrev s_InvalidLine___init__ : Stmt := inClass (topS 8) 0
theorem sc_InvalidLine___init__ : FnScope ["self", "at"] ["self", "at"] (defScope s_InvalidLine___init__) := ⟨rfl, rfl, rfl, by decide +kernel, rfl, by decide +kernel, by decide +kernel⟩
abbrev s__name : Stmt := topS 60
theorem sc__name : FnScope ["text"] ["text"] (defScope s__name) := ⟨rfl, rfl, rfl, by decide +kernel, rfl, by decide +kernel, by decide +kernel⟩
abbrev s__number : Stmt := topS 61
theorem sc__number : FnScope ["text", "sign"] ["text"] (defScope s__number) := ⟨rfl, rfl, rfl, by decide +kernel, rfl, by decide +kernel, by decide +kernel⟩
abbrev s__value : Stmt := topS 62
theorem sc__value : FnScope ["text", "number"] ["text"] (defScope s__value) := ⟨rfl, rfl, rfl, by decide +kernel, rfl, by decide +kernel, by decide +kernel⟩
abbrev s__term : Stmt := topS 63
theorem sc__term : FnScope ["text", "number"] ["text"] (defScope s__term) := ⟨rfl, rfl, rfl, by decide +kernel, rfl, by decide +kernel, by decide +kernel⟩
abbrev s__read : Stmt := topS 65
theorem sc__read : FnScope ["form", "words", "first", "more", "behind", "found", "reader", "word", "thing"] ["form", "words"] (defScope s__read) := ⟨rfl, rfl, rfl, by decide +kernel, rfl, by decide +kernel, by decide +kernel⟩
abbrev s__read_at : Stmt := topS 66
theorem sc__read_at : FnScope ["at", "form", "words", "found"] ["at", "form", "words"] (defScope s__read_at) := ⟨rfl, rfl, rfl, by decide +kernel, rfl, by decide +kernel, by decide +kernel⟩
abbrev s_read_question : Stmt := topS 67
theorem sc_read_question : FnScope ["schema", "lines", "width", "parts", "at", "line", "words", "kind", "things"] ["schema", "lines"] (defScope s_read_question) := ⟨rfl, rfl, rfl, by decide +kernel, rfl, by decide +kernel, by decide +kernel⟩
abbrev s__line : Stmt := topS 69
theorem sc__line : FnScope ["words", "word"] ["words"] (defScope s__line) := ⟨rfl, rfl, rfl, by decide +kernel, rfl, by decide +kernel, by decide +kernel⟩
abbrev s__term_word : Stmt := topS 70
theorem sc__term_word : FnScope ["term"] ["term"] (defScope s__term_word) := ⟨rfl, rfl, rfl, by decide +kernel, rfl, by decide +kernel, by decide +kernel⟩
abbrev s_question_lines : Stmt := topS 71
theorem sc_question_lines : FnScope ["question", "lines", "head", "atoms", "table", "terms", "term"] ["question"] (defScope s_question_lines) := ⟨rfl, rfl, rfl, by decide +kernel, rfl, by decide +kernel, by decide +kernel⟩
abbrev s__law_state : Stmt := topS 73
theorem sc__law_state : FnScope ["_law_script", "_law_k"] ["_law_script", "_law_k"] (defScope s__law_state) := ⟨rfl, rfl, rfl, by decide +kernel, rfl, by decide +kernel, by decide +kernel⟩
abbrev s__law_pick : Stmt := topS 74
theorem sc__law_pick : FnScope ["_law_state_here", "_law_many", "_law_number", "_law_mixed"] ["_law_state_here", "_law_many"] (defScope s__law_pick) := ⟨rfl, rfl, rfl, by decide +kernel, rfl, by decide +kernel, by decide +kernel⟩
abbrev s__law_word : Stmt := topS 75
theorem sc__law_word : FnScope ["_law_state_here", "_law_letters", "_law_size", "_law_k"] ["_law_state_here"] (defScope s__law_word) := ⟨rfl, rfl, rfl, by decide +kernel, rfl, by decide +kernel, by decide +kernel⟩
abbrev s__law_term : Stmt := topS 76
theorem sc__law_term : FnScope ["_law_state_here", "_law_kind", "_law_number"] ["_law_state_here"] (defScope s__law_term) := ⟨rfl, rfl, rfl, by decide +kernel, rfl, by decide +kernel, by decide +kernel⟩
abbrev s__law_tables : Stmt := topS 77
theorem sc__law_tables : FnScope ["_law_state_here", "_law_tables_here", "_law_k", "_law_name", "_law_one"] ["_law_state_here"] (defScope s__law_tables) := ⟨rfl, rfl, rfl, by decide +kernel, rfl, by decide +kernel, by decide +kernel⟩
abbrev s__law_part : Stmt := topS 78
theorem sc__law_part : FnScope ["_law_state_here", "_law_tables_here", "_law_width", "_law_names", "_law_atoms", "_law_safe", "_law_k", "_law_name", "_law_column"] ["_law_state_here", "_law_tables_here", "_law_width"] (defScope s__law_part) := ⟨rfl, rfl, rfl, by decide +kernel, rfl, by decide +kernel, by decide +kernel⟩
abbrev s__law_term_word : Stmt := topS 79
theorem sc__law_term_word : FnScope ["_law_term_here"] ["_law_term_here"] (defScope s__law_term_word) := ⟨rfl, rfl, rfl, by decide +kernel, rfl, by decide +kernel, by decide +kernel⟩
abbrev s__law_line : Stmt := topS 80
theorem sc__law_line : FnScope ["_law_pair", "_law_is_head", "_law_words", "_law_term_here"] ["_law_pair", "_law_is_head"] (defScope s__law_line) := ⟨rfl, rfl, rfl, by decide +kernel, rfl, by decide +kernel, by decide +kernel⟩
abbrev s__law_written : Stmt := topS 81
theorem sc__law_written : FnScope ["_law_width", "_law_parts", "_law_lines", "_law_head", "_law_atoms", "_law_atom"] ["_law_width", "_law_parts"] (defScope s__law_written) := ⟨rfl, rfl, rfl, by decide +kernel, rfl, by decide +kernel, by decide +kernel⟩
abbrev s__law_changed : Stmt := topS 82
theorem sc__law_changed : FnScope ["_law_state_here", "_law_parts", "_law_copy", "_law_kind", "_law_at", "_law_other", "_law_head", "_law_atoms", "_law_joined"] ["_law_state_here", "_law_parts"] (defScope s__law_changed) := ⟨rfl, rfl, rfl, by decide +kernel, rfl, by decide +kernel, by decide +kernel⟩
abbrev s__law_made : Stmt := topS 83
theorem sc__law_made : FnScope ["_law_schema", "_law_width", "_law_parts", "_law_told", "e"] ["_law_schema", "_law_width", "_law_parts"] (defScope s__law_made) := ⟨rfl, rfl, rfl, by decide +kernel, rfl, by decide +kernel, by decide +kernel⟩
abbrev s__law_read : Stmt := topS 84
theorem sc__law_read : FnScope ["_law_schema", "_law_lines", "_law_told", "e"] ["_law_schema", "_law_lines"] (defScope s__law_read) := ⟨rfl, rfl, rfl, by decide +kernel, rfl, by decide +kernel, by decide +kernel⟩
abbrev s_law : Stmt := topS 85
theorem sc_law : FnScope ["_law_script", "_law_state_here", "_law_tables_here", "_law_width", "_law_parts", "_law_schema", "_law_question", "_law_due", "_law_lines", "_law_handed", "_law_back", "_law_changed_here", "_law_other", "_law_k"] ["_law_script"] (defScope s_law) := ⟨rfl, rfl, rfl, by decide +kernel, rfl, by decide +kernel, by decide +kernel⟩
/-- what the top has written, as the walks ask for it -/
structure Txt (K : PySem.W.Frag) (mg : Str → Option Value) (a : Nat → Addr) (d : Nat → FuncData) : Prop where
  F1700 : Fun K "__init__" "InvalidQuestion.__init__" s_InvalidQuestion___init__ (a 1700) (d 1700)
  b1700 : Binds K (d 1700) ["self", "part", "at"] []
  F12 : Fun K "is_plain_int" "is_plain_int" s_is_plain_int (a 12) (d 12)
  b12 : Binds K (d 12) ["thing"] []
  g12 : mg "is_plain_int" = some (.ref (a 12))
  F13 : Fun K "is_word" "is_word" s_is_word (a 13) (d 13)
  b13 : Binds K (d 13) ["thing"] []
  g13 : mg "is_word" = some (.ref (a 13))
  F14 : Fun K "is_value" "is_value" s_is_value (a 14) (d 14)
  b14 : Binds K (d 14) ["thing"] []
  g14 : mg "is_value" = some (.ref (a 14))
  F16 : Fun K "is_variable" "is_variable" s_is_variable (a 16) (d 16)
  b16 : Binds K (d 16) ["thing"] []
  g16 : mg "is_variable" = some (.ref (a 16))
  F17 : Fun K "is_term" "is_term" s_is_term (a 17) (d 17)
  b17 : Binds K (d 17) ["thing"] []
  g17 : mg "is_term" = some (.ref (a 17))
  F18 : Fun K "term_variables" "term_variables" s_term_variables (a 18) (d 18)
  b18 : Binds K (d 18) ["terms"] []
  g18 : mg "term_variables" = some (.ref (a 18))
  F19 : Fun K "atom_variables" "atom_variables" s_atom_variables (a 19) (d 19)
  b19 : Binds K (d 19) ["atoms"] []
  g19 : mg "atom_variables" = some (.ref (a 19))
  F32 : Fun K "_is_count" "_is_count" s__is_count (a 32) (d 32)
  b32 : Binds K (d 32) ["thing", "most"] []
  g32 : mg "_is_count" = some (.ref (a 32))
  F33 : Fun K "_is_name_in" "_is_name_in" s__is_name_in (a 33) (d 33)
  b33 : Binds K (d 33) ["thing", "names"] []
  g33 : mg "_is_name_in" = some (.ref (a 33))
  F34 : Fun K "_are_columns" "_are_columns" s__are_columns (a 34) (d 34)
  b34 : Binds K (d 34) ["thing", "width"] []
  g34 : mg "_are_columns" = some (.ref (a 34))
  F35 : Fun K "_is_key" "_is_key" s__is_key (a 35) (d 35)
  b35 : Binds K (d 35) ["thing", "width"] []
  g35 : mg "_is_key" = some (.ref (a 35))
  F36 : Fun K "_is_service" "_is_service" s__is_service (a 36) (d 36)
  b36 : Binds K (d 36) ["thing", "tables"] []
  g36 : mg "_is_service" = some (.ref (a 36))
  F37 : Fun K "_is_whole_service" "_is_whole_service" s__is_whole_service (a 37) (d 37)
  b37 : Binds K (d 37) ["service", "tables", "keys"] []
  g37 : mg "_is_whole_service" = some (.ref (a 37))
  F38 : Fun K "_check_tables" "_check_tables" s__check_tables (a 38) (d 38)
  b38 : Binds K (d 38) ["tables"] []
  g38 : mg "_check_tables" = some (.ref (a 38))
  F39 : Fun K "_check_keys" "_check_keys" s__check_keys (a 39) (d 39)
  b39 : Binds K (d 39) ["keys", "tables"] []
  g39 : mg "_check_keys" = some (.ref (a 39))
  F40 : Fun K "_check_services" "_check_services" s__check_services (a 40) (d 40)
  b40 : Binds K (d 40) ["services", "tables"] []
  g40 : mg "_check_services" = some (.ref (a 40))
  F41 : Fun K "_check_capped" "_check_capped" s__check_capped (a 41) (d 41)
  b41 : Binds K (d 41) ["services", "tables", "keys"] []
  g41 : mg "_check_capped" = some (.ref (a 41))
  F42 : Fun K "_copied" "_copied" s__copied (a 42) (d 42)
  b42 : Binds K (d 42) ["things"] []
  g42 : mg "_copied" = some (.ref (a 42))
  F5300 : Fun K "__init__" "Schema.__init__" s_Schema___init__ (a 5300) (d 5300)
  b5300 : Binds K (d 5300) ["self", "tables", "keys", "services"] []
  F5301 : Fun K "tables" "Schema.tables" s_Schema_tables (a 5301) (d 5301)
  b5301 : Binds K (d 5301) ["self"] []
  F5304 : Fun K "__eq__" "Schema.__eq__" s_Schema___eq__ (a 5304) (d 5304)
  b5304 : Binds K (d 5304) ["self", "other"] []
  F49 : Fun K "_is_atom" "_is_atom" s__is_atom (a 49) (d 49)
  b49 : Binds K (d 49) ["thing"] []
  g49 : mg "_is_atom" = some (.ref (a 49))
  F50 : Fun K "_has_form" "_has_form" s__has_form (a 50) (d 50)
  b50 : Binds K (d 50) ["part"] []
  g50 : mg "_has_form" = some (.ref (a 50))
  F51 : Fun K "_are_terms" "_are_terms" s__are_terms (a 51) (d 51)
  b51 : Binds K (d 51) ["terms", "many"] []
  g51 : mg "_are_terms" = some (.ref (a 51))
  F52 : Fun K "_wrong_part" "_wrong_part" s__wrong_part (a 52) (d 52)
  b52 : Binds K (d 52) ["tables", "width", "part"] []
  g52 : mg "_wrong_part" = some (.ref (a 52))
  F53 : Fun K "_check_question" "_check_question" s__check_question (a 53) (d 53)
  b53 : Binds K (d 53) ["schema", "width", "parts"] []
  g53 : mg "_check_question" = some (.ref (a 53))
  F6700 : Fun K "__init__" "Question.__init__" s_Question___init__ (a 6700) (d 6700)
  b6700 : Binds K (d 6700) ["self", "schema", "width", "parts"] []
  F6701 : Fun K "part_list" "Question.part_list" s_Question_part_list (a 6701) (d 6701)
  b6701 : Binds K (d 6701) ["self"] []
  F1800 : Fun K "__init__" "InvalidLine.__init__" s_InvalidLine___init__ (a 1800) (d 1800)
  b1800 : Binds K (d 1800) ["self", "at"] []
  F60 : Fun K "_name" "_name" s__name (a 60) (d 60)
  b60 : Binds K (d 60) ["text"] []
  g60 : mg "_name" = some (.ref (a 60))
  F61 : Fun K "_number" "_number" s__number (a 61) (d 61)
  b61 : Binds K (d 61) ["text"] []
  g61 : mg "_number" = some (.ref (a 61))
  F62 : Fun K "_value" "_value" s__value (a 62) (d 62)
  b62 : Binds K (d 62) ["text"] []
  g62 : mg "_value" = some (.ref (a 62))
  F63 : Fun K "_term" "_term" s__term (a 63) (d 63)
  b63 : Binds K (d 63) ["text"] []
  g63 : mg "_term" = some (.ref (a 63))
  F65 : Fun K "_read" "_read" s__read (a 65) (d 65)
  b65 : Binds K (d 65) ["form", "words"] []
  g65 : mg "_read" = some (.ref (a 65))
  F66 : Fun K "_read_at" "_read_at" s__read_at (a 66) (d 66)
  b66 : Binds K (d 66) ["at", "form", "words"] []
  g66 : mg "_read_at" = some (.ref (a 66))
  F67 : Fun K "read_question" "read_question" s_read_question (a 67) (d 67)
  b67 : Binds K (d 67) ["schema", "lines"] []
  g67 : mg "read_question" = some (.ref (a 67))
  F69 : Fun K "_line" "_line" s__line (a 69) (d 69)
  b69 : Binds K (d 69) ["words"] []
  g69 : mg "_line" = some (.ref (a 69))
  F70 : Fun K "_term_word" "_term_word" s__term_word (a 70) (d 70)
  b70 : Binds K (d 70) ["term"] []
  g70 : mg "_term_word" = some (.ref (a 70))
  F71 : Fun K "question_lines" "question_lines" s_question_lines (a 71) (d 71)
  b71 : Binds K (d 71) ["question"] []
  g71 : mg "question_lines" = some (.ref (a 71))
  F73 : Fun K "_law_state" "_law_state" s__law_state (a 73) (d 73)
  b73 : Binds K (d 73) ["_law_script", "_law_k"] []
  g73 : mg "_law_state" = some (.ref (a 73))
  F74 : Fun K "_law_pick" "_law_pick" s__law_pick (a 74) (d 74)
  b74 : Binds K (d 74) ["_law_state_here", "_law_many"] []
  g74 : mg "_law_pick" = some (.ref (a 74))
  F75 : Fun K "_law_word" "_law_word" s__law_word (a 75) (d 75)
  b75 : Binds K (d 75) ["_law_state_here"] []
  g75 : mg "_law_word" = some (.ref (a 75))
  F76 : Fun K "_law_term" "_law_term" s__law_term (a 76) (d 76)
  b76 : Binds K (d 76) ["_law_state_here"] []
  g76 : mg "_law_term" = some (.ref (a 76))
  F77 : Fun K "_law_tables" "_law_tables" s__law_tables (a 77) (d 77)
  b77 : Binds K (d 77) ["_law_state_here"] []
  g77 : mg "_law_tables" = some (.ref (a 77))
  F78 : Fun K "_law_part" "_law_part" s__law_part (a 78) (d 78)
  b78 : Binds K (d 78) ["_law_state_here", "_law_tables_here", "_law_width"] []
  g78 : mg "_law_part" = some (.ref (a 78))
  F79 : Fun K "_law_term_word" "_law_term_word" s__law_term_word (a 79) (d 79)
  b79 : Binds K (d 79) ["_law_term_here"] []
  g79 : mg "_law_term_word" = some (.ref (a 79))
  F80 : Fun K "_law_line" "_law_line" s__law_line (a 80) (d 80)
  b80 : Binds K (d 80) ["_law_pair", "_law_is_head"] []
  g80 : mg "_law_line" = some (.ref (a 80))
  F81 : Fun K "_law_written" "_law_written" s__law_written (a 81) (d 81)
  b81 : Binds K (d 81) ["_law_width", "_law_parts"] []
  g81 : mg "_law_written" = some (.ref (a 81))
  F82 : Fun K "_law_changed" "_law_changed" s__law_changed (a 82) (d 82)
  b82 : Binds K (d 82) ["_law_state_here", "_law_parts"] []
  g82 : mg "_law_changed" = some (.ref (a 82))
  F83 : Fun K "_law_made" "_law_made" s__law_made (a 83) (d 83)
  b83 : Binds K (d 83) ["_law_schema", "_law_width", "_law_parts"] []
  g83 : mg "_law_made" = some (.ref (a 83))
  F84 : Fun K "_law_read" "_law_read" s__law_read (a 84) (d 84)
  b84 : Binds K (d 84) ["_law_schema", "_law_lines"] []
  g84 : mg "_law_read" = some (.ref (a 84))
  F85 : Fun K "law" "law" s_law (a 85) (d 85)
  b85 : Binds K (d 85) ["_law_script"] []
  g85 : mg "law" = some (.ref (a 85))
  cg_2 : mg "CappedError" = some (.ref (a 2))
  x_2 : OexC K (a 2)
  xf_2 : XfC K (a 2)
  xi_2 : ExcC K (a 2)
  cg_5 : mg "LimitExceeded" = some (.ref (a 5))
  x_5 : OexC K (a 5)
  xf_5 : XfC K (a 5)
  xi_5 : ExcC K (a 5)
  no_5_limit : PySem.W.findIn K (.ref (a 5)) "limit" = some none
  cg_7 : mg "InvalidQuestion" = some (.ref (a 7))
  x_7 : OexC K (a 7)
  xf_7 : XfC K (a 7)
  xi_7 : ExcC K (a 7)
  in_7 : PySem.W.findIn K (.ref (a 7)) "__init__" = some (some (.ref (a 1700)))
  ti_7 : PySem.W.typeIn K (.ref (a 1700)) = some (.type "function")
  no_7_part : PySem.W.findIn K (.ref (a 7)) "part" = some none
  no_7_at : PySem.W.findIn K (.ref (a 7)) "at" = some none
  cg_8 : mg "InvalidLine" = some (.ref (a 8))
  x_8 : OexC K (a 8)
  xf_8 : XfC K (a 8)
  xi_8 : ExcC K (a 8)
  in_8 : PySem.W.findIn K (.ref (a 8)) "__init__" = some (some (.ref (a 1800)))
  ti_8 : PySem.W.typeIn K (.ref (a 1800)) = some (.type "function")
  no_8_at : PySem.W.findIn K (.ref (a 8)) "at" = some none
  cg_43 : mg "Schema" = some (.ref (a 43))
  cl_43 : Cls K (a 43)
  M_43 : Mk K (a 43) (a 5300)
  no_43__tables : NoAttr K (a 43) "_tables"
  no_43__keys : NoAttr K (a 43) "_keys"
  no_43__services : NoAttr K (a 43) "_services"
  cg_57 : mg "Question" = some (.ref (a 57))
  cl_57 : Cls K (a 57)
  M_57 : Mk K (a 57) (a 6700)
  no_57_schema : NoAttr K (a 57) "schema"
  no_57_width : NoAttr K (a 57) "width"
  no_57__parts : NoAttr K (a 57) "_parts"
  wg__QUESTION_FORMS : mg "_QUESTION_FORMS" = some (.ref (a 90064))
  ic_43 : C8.InsC K (a 43)
  ne_43 : PySem.W.findIn K (.ref (a 43)) "__ne__" = some (some (.builtin "object.__ne__"))
  om_43 : PySem.W.mroIn K (a 43) (.type "object") = some true
  exm_7_7 : PySem.W.exmOne K (.ref (a 7)) (.ref (a 7)) = some true
  p_5301 : PropOf K (a 43) "tables" (a 55301) (a 5301)
  m_5304 : Meth K (a 43) "__eq__" (a 5304)
  m_6701 : Meth K (a 57) "part_list" (a 6701)
  z_all : mg "all" = none
  z_bool : mg "bool" = none
  z_dict : mg "dict" = none
  z_enumerate : mg "enumerate" = none
  z_int : mg "int" = none
  z_isinstance : mg "isinstance" = none
  z_len : mg "len" = none
  z_list : mg "list" = none
  z_range : mg "range" = none
  z_sorted : mg "sorted" = none
  z_str : mg "str" = none
  z_tuple : mg "tuple" = none
  z_zip : mg "zip" = none
  c_LONGEST_WORD : ∃ t, mg "LONGEST_WORD" = some (.int (8) t)
  c_GREATEST_VALUE : ∃ t, mg "GREATEST_VALUE" = some (.int (999999999999999999999999999999) t)
  c_MOST_TABLES : ∃ t, mg "MOST_TABLES" = some (.int (5) t)
  c_MOST_WIDTH_schemas : ∃ t, mg "MOST_WIDTH_schemas" = some (.int (4) t)
  c_MOST_SERVICES : ∃ t, mg "MOST_SERVICES" = some (.int (8) t)
  c_MOST_CAP : ∃ t, mg "MOST_CAP" = some (.int (4) t)
  c_MOST_WIDTH_questions : ∃ t, mg "MOST_WIDTH_questions" = some (.int (12) t)
  c_MOST_PARTS : ∃ t, mg "MOST_PARTS" = some (.int (4000) t)
  c_MOST_ATOMS : ∃ t, mg "MOST_ATOMS" = some (.int (5) t)
  c_MOST_DIGITS : ∃ t, mg "MOST_DIGITS" = some (.int (30) t)
end My
namespace My
open PySem PySem.Spec PyProof.Rows L2
local macro_rules | `(tactic| walk_at "g") => `(tactic| first
  | refine ⟨_, rfl, ?_⟩
  | refine ⟨_, _, rfl, rfl, .inl ⟨by decide, by decide⟩, ?_⟩
  | refine ⟨_, _, rfl, rfl, .inr ⟨by decide, by decide⟩, ?_⟩
  | refine ⟨_, _, rfl, rfl, .inl ⟨by omega, by omega⟩, ?_⟩
  | refine ⟨_, _, rfl, rfl, ⟨by decide, by decide +kernel⟩, ?_⟩
  | refine ⟨_, _, rfl, rfl, ⟨by decide, by decide, by decide⟩, ?_⟩
  | refine ⟨_, _, rfl, rfl, (by show (0 : Int) < _; decide), ?_⟩
  | refine ⟨_, _, rfl, rfl, ?_⟩
  | refine .inl ⟨_, rfl, ?_⟩
  | refine ⟨rfl, _, rfl, ?_⟩)
local macro_rules | `(tactic| walk_at "gg") => `(tactic| repeat walk_at "g")
/-- what comes behind a statement, under a name -/
theorem seq_cut {t u : TS} {D : Ends} {σ : L2.St} {H : Hp} (h : ∀ N : L2.St → Hp → Prop, (∀ σ' H', u D σ' H' → N σ' H') → t { D with nx := N } σ H) : tSeq t u D σ H := h _ fun _ _ x => x
/-! ### the pool of draws: a list of ints at an address that every draw changes -/
def PoolAt (H : Hp) (a : Addr) : Prop := ∃ (p0 p1 p2 p3 : Int) (r : List Int), H a = some (.lst (.int p0 :: .int p1 :: .int p2 :: .int p3 :: r.map V.int)) ∧ 0 ≤ p0 ∧ 0 ≤ p1 ∧ 0 ≤ p2 ∧ p2 < 2147483647 ∧ 0 ≤ p3 ∧ r.length ≤ 63
/-- the pool at a may have changed; all else that was tracked stands -/
def Chg (a : Addr) (H H' : Hp) : Prop := PoolAt H' a ∧ ∀ b o, b ≠ a → H b = some o → H' b = some o
theorem Chg.refl {a : Addr} {H : Hp} (h : PoolAt H a) : Chg a H H := ⟨h, fun _ _ _ e => e⟩
theorem Chg.trans {a : Addr} {H H1 H2 : Hp} (x : Chg a H H1) (y : Chg a H1 H2) : Chg a H H2 := ⟨y.1, fun b o n e => y.2 b o n (x.2 b o n e)⟩
theorem Chg.new {a p : Addr} {o : HO} {H H1 : Hp} (x : Chg a H H1) (h : H1 p = none) : Chg a H (upd H1 p o) := by
  obtain ⟨⟨p0, p1, p2, p3, r, e, c⟩, k⟩ := x
  have n : a ≠ p := ne_of_none e h
  exact ⟨⟨p0, p1, p2, p3, r, by rw [upd_ne n]; exact e, c⟩, fun b u nb q => by
    have q' := k b u nb q
    rw [upd_ne (ne_of_none q' h)]
    exact q'⟩
theorem Chg.mut {a p : Addr} {o : HO} {H H1 : Hp} (x : Chg a H H1) (h : H p = none) (n : p ≠ a) : Chg a H (upd H1 p o) := by
  obtain ⟨⟨p0, p1, p2, p3, r, e, c⟩, k⟩ := x
  exact ⟨⟨p0, p1, p2, p3, r, by rw [upd_ne n.symm]; exact e, c⟩, fun b u nb q => by
    rw [upd_ne (ne_of_none q h)]
    exact k b u nb q⟩
theorem Chg.ne {a p : Addr} {H : Hp} (x : PoolAt H a) (h : H p = none) : p ≠ a := by
  obtain ⟨p0, p1, p2, p3, r, e, c⟩ := x
  exact (ne_of_none e h).symm
theorem PoolAt.same {a : Addr} {H H' : Hp} (x : PoolAt H a) (s : Same H H') : PoolAt H' a := by
  obtain ⟨p0, p1, p2, p3, r, e, c⟩ := x
  exact ⟨p0, p1, p2, p3, r, s _ _ e, c⟩
theorem same_upd {H : Hp} {p : Addr} {o : HO} (h : H p = none) : Same H (upd H p o) := fun b x e => by
  rw [upd_ne (ne_of_none e h)]
  exact e
theorem Same.on {H H' : Hp} {b : Addr} {o : HO} (s : Same H H') (e : H b = some o) : H' b = some o := s _ _ e
theorem upd_old {H : Hp} {p b : Addr} {o u : HO} (h : H p = none) (e : H b = some u) : upd H p o b = some u := by
  rw [upd_ne (ne_of_none e h)]
  exact e
theorem upd_oldN {H : Hp} {p b : Addr} {o u : HO} (n : b ≠ p) (e : H b = some u) : upd H p o b = some u := by
  rw [upd_ne n]
  exact e
theorem free_of {a p : Addr} {H H1 : Hp} (x : Chg a H H1) (h0 : PoolAt H a) (h : H1 p = none) : H p = none := by
  cases e : H p with
  | none => rfl
  | some o =>
    by_cases n : p = a
    · subst n
      obtain ⟨⟨p0, p1, p2, p3, r, e, c⟩, _⟩ := x
      rw [e] at h
      cases h
    · rw [x.2 p o n e] at h
      cases h
theorem ixN_at {n j : Nat} (h : j < n) : ixN n (j : Int) = some j := by
  unfold ixN
  rw [if_pos (by omega), if_pos (by omega)]
  simp
theorem ite_d {p A B : Prop} [Decidable p] (h1 : p → A) (h2 : ¬ p → B) : if decide p = true then A else B := by
  by_cases h : p
  · rw [if_pos (decide_eq_true h)]
    exact h1 h
  · rw [if_neg (by rw [decide_eq_false h]; decide)]
    exact h2 h
theorem ite_nd {p A B : Prop} [Decidable p] (h1 : ¬ p → A) (h2 : p → B) : if (!decide p) = true then A else B := by
  by_cases h : p
  · rw [if_neg (by rw [decide_eq_true h]; decide)]
    exact h2 h
  · rw [if_pos (by rw [decide_eq_false h]; decide)]
    exact h1 h
theorem ite_eqI {i j : Int} {A B : Prop} (h1 : i = j → A) (h2 : i ≠ j → B) : if decide (V.int i = V.int j) = true then A else B := ite_d (fun h => h1 (V.int.inj h)) (fun h => h2 fun e => h (congrArg V.int e))
theorem int_at {q0 q1 q2 q3 : Int} {r : List Int} {i : Nat} (h : i < (V.int q0 :: .int q1 :: .int q2 :: .int q3 :: r.map V.int).length) : ∃ c, (V.int q0 :: .int q1 :: .int q2 :: .int q3 :: r.map V.int)[i]? = some (.int c) := by
  have e : (V.int q0 :: .int q1 :: .int q2 :: .int q3 :: r.map V.int) = (q0 :: q1 :: q2 :: q3 :: r).map V.int := rfl
  rw [e] at h ⊢
  rw [List.length_map] at h
  exact ⟨_, by rw [List.getElem?_map, List.getElem?_eq_getElem h]; rfl⟩
theorem map_at {α β : Type} {f : α → β} {xs : List α} {i : Nat} {y : β} (h : (xs.map f)[i]? = some y) : ∃ x, xs[i]? = some x ∧ f x = y := by
  rw [List.getElem?_map] at h
  cases e : xs[i]? with
  | none =>
    rw [e] at h
    cases h
  | some x =>
    rw [e] at h
    exact ⟨x, rfl, Option.some.inj h⟩
theorem map_take {α β : Type} {f : α → β} {xs : List α} {i : Nat} {x : α} (h : xs[i]? = some x) : (xs.take (i + 1)).map f = (xs.take i).map f ++ [f x] := by
  rw [List.take_add_one, h, List.map_append]
  rfl
theorem small1000' {n : Nat} (h : n ≤ 1000) : n ≤ sizeLine := Nat.le_of_lt (small1000 h)
theorem hu_of64 {A : Around} {k : Nat} (hr : Room k A) : A.units + 64 < cLine := Nat.lt_of_le_of_lt (Nat.add_le_add_left (by omega : 64 ≤ 16 * k + 200) _) (by have := hr.un; omega)
theorem hu_of65 {A : Around} {k : Nat} (hr : Room k A) : A.units + 65 < cLine := Nat.lt_of_le_of_lt (Nat.add_le_add_left (by omega : 65 ≤ 16 * k + 200) _) (by have := hr.un; omega)
theorem hu_of80 {A : Around} {k : Nat} (hr : Room k A) : A.units + 80 < cLine := Nat.lt_of_le_of_lt (Nat.add_le_add_left (by omega : 80 ≤ 16 * k + 200) _) (by have := hr.un; omega)
theorem at_g {α : Type} {xs : List α} {z : Int} {j : Nat} {v : α} (e : z = (j : Int)) (h : xs[j]? = some v) : atI xs z = some v := by
  rw [e]
  exact atI_nat h
theorem at_some {α : Type} {xs : List α} {z : Int} (h0 : 0 ≤ z) (h1 : z < xs.length) : ∃ v, atI xs z = some v := by
  have h2 : z.toNat < xs.length := by omega
  exact ⟨_, at_g (show z = ((z.toNat : Nat) : Int) by omega) (List.getElem?_eq_getElem h2)⟩
theorem atI_mem {α : Type} {xs : List α} {z : Int} {v : α} (h : atI xs z = some v) : v ∈ xs := by
  unfold atI at h
  cases e : ixN xs.length z with
  | none =>
    rw [e] at h
    cases h
  | some j =>
    rw [e] at h
    exact List.mem_of_getElem? h
theorem cutS_mem {z : Str} {lo hi : Option Int} {c : Nat} (h : c ∈ (cutS z lo hi).cps.toList) : c ∈ z.cps.toList := by
  unfold cutS at h
  exact List.mem_of_mem_drop (List.mem_of_mem_take h)
theorem letter_at : ∀ j : Nat, j < 26 → ("abcdefghijklmnopqrstuvwxyz" : Str).cps.toList[j]? = some (97 + j) := by decide +kernel
def Oth (a : Addr) (H H' : Hp) : Prop := ∀ b o, b ≠ a → H b = some o → H' b = some o
theorem Oth.refl (a : Addr) (H : Hp) : Oth a H H := fun _ _ _ e => e
theorem Oth.upd {a : Addr} {H H' : Hp} {o : HO} (x : Oth a H H') : Oth a H (upd H' a o) := fun b u n e => by
  rw [upd_ne n]
  exact x b u n e
def IsWd (s : Str) (m : Nat) : Prop := s.length = m ∧ ∀ c ∈ s.cps.toList, 97 ≤ c ∧ c ≤ 122
local macro_rules | `(tactic| walk_at "kp") => `(tactic| solve_by_elim (maxDepth := 30) [Same.on, upd_same, upd_old, upd_oldN])
/-! ### words, names -/
def Wd (s : Str) : Prop := 1 ≤ s.length ∧ s.length ≤ 8 ∧ ∀ c ∈ s.cps.toList, 97 ≤ c ∧ c ≤ 122
def sgn (c : Nat) : Str := ⟨#[c]⟩
theorem cps_app (s t : Str) : (s ++ t).cps.toList = s.cps.toList ++ t.cps.toList := by
  show (s.cps ++ t.cps).toList = _
  rw [Array.toList_append]
theorem len_cps (s : Str) : s.length = s.cps.toList.length := by
  show s.cps.size = _
  rw [Array.length_toList]
theorem len_app (s t : Str) : (s ++ t).length = s.length + t.length := by
  rw [len_cps, cps_app, List.length_append, ← len_cps, ← len_cps]
def nmOf (fr : Bool) (stem : Str) (c : Nat) : Str := if fr = true then sgn c ++ stem else stem ++ sgn c
theorem nmOf_inj {fr : Bool} {stem : Str} {c e : Nat} (h : nmOf fr stem c = nmOf fr stem e) : c = e := by
  have h' := congrArg (fun s : Str => s.cps.toList) h
  cases fr with
  | true =>
    have h2 : (sgn c ++ stem).cps.toList = (sgn e ++ stem).cps.toList := h'
    rw [cps_app, cps_app] at h2
    exact (List.cons.inj h2).1
  | false =>
    have h2 : (stem ++ sgn c).cps.toList = (stem ++ sgn e).cps.toList := h'
    rw [cps_app, cps_app] at h2
    exact (List.cons.inj (List.append_cancel_left h2)).1
theorem nmOf_wd {fr : Bool} {stem : Str} {n c : Nat} (h : IsWd stem n) (hn : n ≤ 7) (h1 : 97 ≤ c) (h2 : c ≤ 122) : Wd (nmOf fr stem c) := by
  have l1 : (sgn c).length = 1 := rfl
  have hl := h.1
  have hs : ∀ x ∈ (sgn c).cps.toList, 97 ≤ x ∧ x ≤ 122 := fun x hx => by
    rw [List.mem_singleton.mp hx]
    exact ⟨h1, h2⟩
  cases fr with
  | true =>
    refine ⟨?_, ?_, fun x hx => ?_⟩
    · show 1 ≤ (sgn c ++ stem).length
      rw [len_app]
      omega
    · show (sgn c ++ stem).length ≤ 8
      rw [len_app]
      omega
    · have hx' : x ∈ (sgn c ++ stem).cps.toList := hx
      rw [cps_app] at hx'
      exact (List.mem_append.mp hx').elim (hs x) (h.2 x)
  | false =>
    refine ⟨?_, ?_, fun x hx => ?_⟩
    · show 1 ≤ (stem ++ sgn c).length
      rw [len_app]
      omega
    · show (stem ++ sgn c).length ≤ 8
      rw [len_app]
      omega
    · have hx' : x ∈ (stem ++ sgn c).cps.toList := hx
      rw [cps_app] at hx'
      exact (List.mem_append.mp hx').elim (h.2 x) (hs x)
/-- names of m things: words, no two alike -/
structure Nms (ns : List Str) (m : Nat) : Prop where
  len : ns.length = m
  nd : ns.Nodup
  wd : ∀ s ∈ ns, Wd s
def signAt (f s : Int) (k : Nat) : Nat := 97 + ((f + s * (k : Int)) % 26).toNat
theorem signAt_le (f s : Int) (k : Nat) : 97 ≤ signAt f s k ∧ signAt f s k ≤ 122 := by
  unfold signAt
  have h1 := Int.emod_nonneg (f + s * (k : Int)) (by decide : (26 : Int) ≠ 0)
  have h2 := Int.emod_lt_of_pos (f + s * (k : Int)) (by decide : (0 : Int) < 26)
  omega
theorem signAt_inj {f s : Int} (hs : s ∈ ([1, 3, 5, 7, 9, 11] : List Int)) {i j : Nat} (hi : i < 26) (hj : j < 26) (h : signAt f s i = signAt f s j) : i = j := by
  unfold signAt at h
  have h1 := Int.emod_nonneg (f + s * (i : Int)) (by decide : (26 : Int) ≠ 0)
  have h2 := Int.emod_nonneg (f + s * (j : Int)) (by decide : (26 : Int) ≠ 0)
  have e : (f + s * (i : Int)) % 26 = (f + s * (j : Int)) % 26 := by omega
  simp only [List.mem_cons, List.not_mem_nil, or_false] at hs
  rcases hs with rfl | rfl | rfl | rfl | rfl | rfl <;> omega
def namesOf (fr : Bool) (stem : Str) (f s : Int) (m : Nat) : List Str := (List.range m).map fun k => nmOf fr stem (signAt f s k)
theorem namesOf_succ (fr : Bool) (stem : Str) (f s : Int) (m : Nat) : namesOf fr stem f s (m + 1) = namesOf fr stem f s m ++ [nmOf fr stem (signAt f s m)] := by
  unfold namesOf
  rw [List.range_succ, List.map_append]
  rfl
theorem nodup_map {α β : Type} {f : α → β} : ∀ {xs : List α}, xs.Nodup → (∀ x ∈ xs, ∀ y ∈ xs, f x = f y → x = y) → (xs.map f).Nodup
  | [], _, _ => List.nodup_nil
  | x :: xs, hd, hi => by
    have hd' := List.nodup_cons.mp hd
    rw [List.map_cons]
    refine List.nodup_cons.mpr ⟨fun hm => ?_, nodup_map hd'.2 fun y hy z hz => hi y (List.mem_cons_of_mem _ hy) z (List.mem_cons_of_mem _ hz)⟩
    obtain ⟨y, hy, e⟩ := List.mem_map.mp hm
    have := hi y (List.mem_cons_of_mem _ hy) x (List.mem_cons_self ..) e
    rw [this] at hy
    exact hd'.1 hy
theorem namesOf_ok {fr : Bool} {stem : Str} {n : Nat} {f s : Int} {m : Nat} (h : IsWd stem n) (hn : n ≤ 7) (hs : s ∈ ([1, 3, 5, 7, 9, 11] : List Int)) (hm : m ≤ 26) : Nms (namesOf fr stem f s m) m := by
  refine ⟨by unfold namesOf; rw [List.length_map, List.length_range], nodup_map List.nodup_range fun x hx y hy e => ?_, fun z hz => ?_⟩
  · exact signAt_inj hs (Nat.lt_of_lt_of_le (List.mem_range.mp hx) hm) (Nat.lt_of_lt_of_le (List.mem_range.mp hy) hm) (nmOf_inj e)
  · obtain ⟨k, hk, rfl⟩ := List.mem_map.mp hz
    exact nmOf_wd h hn (signAt_le f s k).1 (signAt_le f s k).2
section
variable {P : Program} {w : World} {K : PySem.W.Frag} {mg : Str → Option Value} {base : Heap} {a : Nat → Addr} {d : Nat → FuncData}
/-! ### _law_names -/
def spNames : Sp := fun vs H Q _ => ∃ (p : Addr) (m : Nat), vs = [.ref p, .int (m : Int)] ∧ PoolAt H p ∧ m ≤ 26 ∧
  ∀ (l : Addr) (ns : List Str) (H' : Hp), H l = none → H' l = some (.lst (ns.map V.str)) → Nms ns m → Chg p H H' → Q (.ref l) H'
/-! ### _law_columns -/
def Cols (cs : List Int) (w : Int) : Prop := cs.Pairwise (· < ·) ∧ ∀ c ∈ cs, 0 ≤ c ∧ c < w
theorem Cols.take {cs : List Int} {w : Int} (h : Cols cs w) (n : Nat) : Cols (cs.take n) w := ⟨h.1.sublist (List.take_sublist n cs), fun c hc => h.2 c (List.mem_of_mem_take hc)⟩
theorem Cols.snoc {cs : List Int} {i : Nat} (h : Cols cs (i : Int)) : Cols (cs ++ [(i : Int)]) ((i + 1 : Nat) : Int) := by
  refine ⟨List.pairwise_append.mpr ⟨h.1, List.pairwise_singleton _ _, fun x hx y hy => ?_⟩, fun c hc => ?_⟩
  · rw [List.mem_singleton.mp hy]
    exact (h.2 x hx).2
  · rcases List.mem_append.mp hc with h' | h'
    · have := h.2 c h'
      omega
    · rw [List.mem_singleton.mp h']
      omega
theorem Cols.up {cs : List Int} {v w : Int} (h : Cols cs v) (hw : v ≤ w) : Cols cs w := ⟨h.1, fun c hc => ⟨(h.2 c hc).1, Int.lt_of_lt_of_le (h.2 c hc).2 hw⟩⟩
theorem cut_take (xs : List V) (n : Nat) : cutV xs none (some (n : Int)) = xs.take n := by
  unfold cutV
  show (xs.drop 0).take (HT.sIx xs.length xs.length (some (n : Int)) - 0) = _
  rw [List.drop_zero, Nat.sub_zero]
  rw [HT.sIx_nat]
  by_cases h : n ≤ xs.length
  · rw [Nat.min_eq_left h]
  · rw [Nat.min_eq_right (by omega), List.take_length, List.take_of_length_le (by omega)]
def spCols : Sp := fun vs H Q _ => ∃ (p : Addr) (w lo : Int) (hi : Nat), vs = [.ref p, .int w, .int lo, .int (hi : Int)] ∧ PoolAt H p ∧ 1 ≤ w ∧ w ≤ 100 ∧ lo ≤ 1 ∧
  ∀ (t : Addr) (cs : List Int) (H' : Hp), H t = none → H' t = some (.tup (cs.map V.int)) → Cols cs w → cs.length ≤ hi → (lo = 1 → 1 ≤ hi → 1 ≤ cs.length) → Chg p H H' → Q (.ref t) H'
/-! ### _law_tables -/
def tabK (ts : List (Str × Int)) : List (Key × V) := ts.map fun p => (Sum.inr p.1, V.int p.2)
structure Tabs (ts : List (Str × Int)) (m : Nat) (wm : Int) : Prop where
  nm : Nms (ts.map (·.1)) m
  wd : ∀ p ∈ ts, 1 ≤ p.2 ∧ p.2 ≤ wm
theorem Tabs.len {ts : List (Str × Int)} {m : Nat} {wm : Int} (h : Tabs ts m wm) : ts.length = m := by
  rw [← h.nm.len, List.length_map]
theorem valV_no {κ : Type} [DecidableEq κ] {k : κ} : ∀ {kvs : List (κ × V)}, k ∉ kvs.map (·.1) → valV kvs k = none
  | [], _ => rfl
  | p :: r, h => by
    rw [List.map_cons] at h
    rw [valV_neg (fun e => h (by rw [e]; exact List.mem_cons_self ..))]
    exact valV_no fun hm => h (List.mem_cons_of_mem _ hm)
theorem nd_take {α : Type} {xs : List α} {i : Nat} {x : α} (h : xs.Nodup) (hx : xs[i]? = some x) : x ∉ xs.take i := fun hm => by
  have e : (xs.take (i + 1)).Nodup := h.sublist (List.take_sublist _ _)
  rw [List.take_add_one, hx] at e
  exact (List.nodup_append.mp e).2.2 x hm x (by simp) rfl
theorem keys_tab (ts : List (Str × Int)) : (tabK ts).map (·.1) = (ts.map (·.1)).map Sum.inr := by
  unfold tabK
  rw [List.map_map, List.map_map]
  rfl
theorem inr_nd {ns : List Str} (h : ns.Nodup) : (ns.map (Sum.inr : Str → Key)).Nodup := nodup_map h fun _ _ _ _ e => Sum.inr.inj e
theorem inr_no {ns : List Str} {n : Str} (h : n ∉ ns) : (Sum.inr n : Key) ∉ ns.map Sum.inr := fun hm => by
  obtain ⟨x, hx, e⟩ := List.mem_map.mp hm
  rw [← Sum.inr.inj e] at h
  exact h hx
theorem tab_at {H : Hp} {t : Addr} {ts : List (Str × Int)} {n : Str} {w : Int} (e : H t = some (.dK (tabK ts))) (nd : (ts.map (·.1)).Nodup) (h : (n, w) ∈ ts) : DGet H t (.str n) (some (.int w)) := by
  have g := DGet.k (k := Sum.inr n) e
  have v : valV (tabK ts) (Sum.inr n) = some (.int w) := val_nodup (kvs := tabK ts) (by rw [keys_tab]; exact inr_nd nd) (Sum.inr n, V.int w) (List.mem_map.mpr ⟨(n, w), h, rfl⟩)
  rw [v] at g
  exact g
theorem snoc_map {α β : Type} (f : α → β) (xs : List α) (x : α) : (xs ++ [x]).map f = xs.map f ++ [f x] := by
  rw [List.map_append]
  rfl
theorem Chg.at {p b : Addr} {H H' : Hp} {o : HO} (c : Chg p H H') (n : b ≠ p) (e : H b = some o) : H' b = some o := c.2 b o n e
theorem pool_ne {H : Hp} {p b : Addr} {o : HO} (h : PoolAt H p) (e : H b = some o) (x : ∀ xs, o ≠ .lst xs) : b ≠ p := by
  obtain ⟨p0, p1, p2, p3, r, e', c⟩ := h
  exact ne_of e e' (x _)
def spTables : Sp := fun vs H Q _ => ∃ (p : Addr) (m : Nat) (wm : Int), vs = [.ref p, .int (m : Int), .int wm] ∧ PoolAt H p ∧ m ≤ 26 ∧ 1 ≤ wm ∧ wm ≤ 100 ∧
  ∀ (t : Addr) (ts : List (Str × Int)) (H' : Hp), H t = none → H' t = some (.dK (tabK ts)) → Tabs ts m wm → Chg p H H' → Q (.ref t) H'
/-! ### _law_keys -/
abbrev KeyE := Str × Addr × List Int
def keyK (ks : List KeyE) : List (Key × V) := ks.map fun b => (Sum.inr b.1, V.ref b.2.1)
theorem keys_key (ks : List KeyE) : (keyK ks).map (·.1) = (ks.map (·.1)).map Sum.inr := by
  unfold keyK
  rw [List.map_map, List.map_map]
  rfl
structure Keys (H : Hp) (ts : List (Str × Int)) (ks : List KeyE) : Prop where
  nd : (ks.map (·.1)).Nodup
  le : ks.length ≤ ts.length
  at_ : ∀ b ∈ ks, H b.2.1 = some (.tup (b.2.2.map V.int))
  ok : ∀ b ∈ ks, ∃ w, (b.1, w) ∈ ts ∧ Cols b.2.2 w ∧ 1 ≤ b.2.2.length ∧ (b.2.2.length : Int) < w
theorem Keys.mono {H H' : Hp} {ts : List (Str × Int)} {ks : List KeyE} (h : Keys H ts ks) (m : ∀ b xs, H b = some (.tup xs) → H' b = some (.tup xs)) : Keys H' ts ks := ⟨h.nd, h.le, fun b hb => m _ _ (h.at_ b hb), h.ok⟩
theorem chg_tup {p : Addr} {H H' : Hp} (h : PoolAt H p) (c : Chg p H H') : ∀ b xs, H b = some (.tup xs) → H' b = some (.tup xs) := fun b xs e => c.at (pool_ne h e (by intro _ z; cases z)) e
theorem upd_tup {H : Hp} {t : Addr} {o u : HO} (h : H t = some u) (n : ∀ xs, u ≠ .tup xs) : ∀ b xs, H b = some (.tup xs) → upd H t o b = some (.tup xs) := fun b xs e => by
  rw [upd_ne (ne_of e h (fun z => n xs z.symm))]
  exact e
def spKeys : Sp := fun vs H Q _ => ∃ (p t : Addr) (m : Nat) (ts : List (Str × Int)), vs = [.ref p, .ref t] ∧ PoolAt H p ∧ H t = some (.dK (tabK ts)) ∧ Tabs ts m 100 ∧ m ≤ 26 ∧
  ∀ (k : Addr) (ks : List KeyE) (H' : Hp), H k = none → H' k = some (.dK (keyK ks)) → Keys H' ts ks → Chg p H H' → Q (.ref k) H'
/-! ### _law_is_whole -/
theorem valV_mem {κ : Type} [DecidableEq κ] {k : κ} {v : V} : ∀ {kvs : List (κ × V)}, valV kvs k = some v → (k, v) ∈ kvs
  | [], h => by cases h
  | p :: r, h => by
    by_cases e : p.1 = k
    · rw [valV_pos e] at h
      have : p = (k, v) := by rw [← e, ← Option.some.inj h]
      rw [this]
      exact List.mem_cons_self ..
    · rw [valV_neg e] at h
      exact List.mem_cons_of_mem _ (valV_mem h)
theorem perm_nd {κ : Type} {a b : List (κ × V)} (p : a.Perm b) (nd : (b.map (·.1)).Nodup) : (a.map (·.1)).Nodup := (p.map (·.1)).nodup_iff.mpr nd
theorem valV_perm {κ : Type} [DecidableEq κ] {a b : List (κ × V)} (p : a.Perm b) (nd : (b.map (·.1)).Nodup) (k : κ) : valV a k = valV b k := by
  cases h : valV b k with
  | some v => exact val_nodup (perm_nd p nd) (k, v) (p.mem_iff.mpr (valV_mem h))
  | none =>
    cases h' : valV a k with
    | none => rfl
    | some v =>
      rw [val_nodup nd (k, v) (p.mem_iff.mp (valV_mem h'))] at h
      cases h
/-- a dict at t with these pairs, in any order -/
def DctAt (H : Hp) (t : Addr) (kvs : List (Key × V)) : Prop := ∃ ks, H t = some (.dK ks) ∧ ks.Perm kvs
theorem DctAt.of {H : Hp} {t : Addr} {kvs : List (Key × V)} (h : H t = some (.dK kvs)) : DctAt H t kvs := ⟨kvs, h, .refl _⟩
theorem DctAt.same {H H' : Hp} {t : Addr} {kvs : List (Key × V)} (h : DctAt H t kvs) (s : Same H H') : DctAt H' t kvs := by
  obtain ⟨ks, e, p⟩ := h
  exact ⟨ks, s _ _ e, p⟩
theorem DctAt.get {H : Hp} {t : Addr} {kvs : List (Key × V)} (h : DctAt H t kvs) (nd : (kvs.map (·.1)).Nodup) (k : Key) : DGet H t (kV k) (valV kvs k) := by
  obtain ⟨ks, e, p⟩ := h
  have g := DGet.k (k := k) e
  rw [valV_perm p nd] at g
  exact g
theorem tab_nd {ts : List (Str × Int)} {m : Nat} {wm : Int} (h : Tabs ts m wm) : ((tabK ts).map (·.1)).Nodup := by
  rw [keys_tab]
  exact inr_nd h.nm.nd
theorem tab_val {ts : List (Str × Int)} {m : Nat} {wm : Int} {n : Str} {w : Int} (h : Tabs ts m wm) (hm : (n, w) ∈ ts) : valV (tabK ts) (Sum.inr n) = some (.int w) :=
  val_nodup (kvs := tabK ts) (tab_nd h) (Sum.inr n, V.int w) (List.mem_map.mpr ⟨(n, w), hm, rfl⟩)
theorem key_nd {H : Hp} {ts : List (Str × Int)} {ks : List KeyE} {m : Nat} {wm : Int} (hT : Tabs ts m wm) (h : Keys H ts ks) : ((keyK ks).map (·.1)).Nodup := by
  rw [keys_key]
  exact inr_nd h.nd
theorem DctAt.at_ {H : Hp} {t : Addr} {kvs : List (Key × V)} {n : Str} {v : V} (h : DctAt H t kvs) (nd : (kvs.map (·.1)).Nodup) (e : valV kvs (Sum.inr n) = some v) : DGet H t (.str n) (some v) := by
  have g := h.get nd (Sum.inr n)
  rw [e] at g
  exact g
def capV : Option Int → V
  | none => .non
  | some i => .int i
theorem capV_none (c : Option Int) : decide (capV c = .non) = c.isNone := by
  cases c <;> rfl
def keyAt (ks : List KeyE) (n : Str) : Option KeyE := ks.find? fun b => decide (b.1 = n)
theorem keyAt_val (n : Str) : ∀ ks : List KeyE, valV (keyK ks) (Sum.inr n) = (keyAt ks n).map fun b => V.ref b.2.1
  | [] => rfl
  | b :: ks => by
    have ih := keyAt_val n ks
    unfold keyAt keyK at ih ⊢
    rw [List.map_cons]
    by_cases e : b.1 = n
    · rw [valV_pos (by rw [e])]
      simp [e]
    · rw [valV_neg (fun z => e (Sum.inr.inj z)), ih]
      simp [e]
theorem keyAt_mem {ks : List KeyE} {n : Str} {b : KeyE} (h : keyAt ks n = some b) : b ∈ ks ∧ b.1 = n := by
  unfold keyAt at h
  exact ⟨List.mem_of_find?_eq_some h, by simpa using List.find?_some h⟩
def isWh (w : Int) (ks : List KeyE) (n : Str) (cols : List Int) (cap : Option Int) : Bool :=
  cap.isNone || (decide ((cols.length : Int) = w) || match keyAt ks n with
    | none => false
    | some b => b.2.2.all fun x => decide (x ∈ cols))
theorem inV_ints (c : Int) (xs : List Int) : inV (.int c) (xs.map V.int) = decide (c ∈ xs) := by
  unfold inV
  rw [List.any_map]
  apply Bool.eq_iff_iff.mpr
  rw [List.any_eq_true, decide_eq_true_iff]
  constructor
  · rintro ⟨x, hx, e⟩
    have e' : decide (x = c) = true := e
    rw [← of_decide_eq_true e']
    exact hx
  · intro h
    exact ⟨c, h, decide_eq_true rfl⟩
theorem flat_ints (xs : List Int) : (xs.map V.int).all flatV = true := by
  rw [List.all_map, List.all_eq_true]
  intro _ _
  rfl
theorem dp_ints {K : PySem.W.Frag} {H : Hp} : ∀ ns : List Int, DpAll K H (ns.map V.int) (ns.map PyData.int)
  | [] => .nil
  | n :: ns => .cons (.int n) (dp_ints ns)
theorem lay_ints : ∀ ns : List Int, PyData.canLayAll0 (ns.map PyData.int) = true ∧ PyData.depthAll (ns.map PyData.int) = 0
  | [] => by simp [PyData.canLayAll0, PyData.depthAll]
  | n :: ns => by
    obtain ⟨h1, h2⟩ := lay_ints ns
    simp only [List.map_cons, PyData.canLayAll0, PyData.depthAll, PyData.canLay0, PyData.depth, h1, h2, Bool.and_self, true_and]
    rfl
theorem ints_shaped (ns : List Int) : SeqAt.shaped (.list (ns.map PyData.int)) = true := by
  obtain ⟨h1, h2⟩ := lay_ints ns
  show ((PyData.list (ns.map PyData.int)).canLay0 && decide ((PyData.list (ns.map PyData.int)).depth ≤ 64)) = true
  simp only [PyData.canLay0, PyData.depth, h1, h2]
  decide
theorem eqv_nilL (ds : List PyData) : PyData.eqv (.list ds) (.list []) = ds.isEmpty := by
  cases ds <;> simp [PyData.eqv, PyData.eqvAll]
theorem filter_empty (cs xs : List Int) : ((cs.filter fun c => !decide (c ∈ xs)).map PyData.int).isEmpty = cs.all fun c => decide (c ∈ xs) := by
  induction cs with
  | nil => rfl
  | cons c cs ih =>
    by_cases h : c ∈ xs
    · rw [List.filter_cons_of_neg (by simp [h]), ih, List.all_cons, decide_eq_true h, Bool.true_and]
    · rw [List.filter_cons_of_pos (by simp [h]), List.all_cons, decide_eq_false h, Bool.false_and]
      rfl
structure Told (H : Hp) (v : Addr) (n : Str) (ga : Addr) (cols : List Int) (cap : Option Int) : Prop where
  tup : H v = some (.tup [.str n, .ref ga, capV cap])
  cols : H ga = some (.tup (cols.map V.int))
theorem Told.mono {H H' : Hp} {v : Addr} {n : Str} {ga : Addr} {cols : List Int} {cap : Option Int} (h : Told H v n ga cols cap) (m : ∀ b xs, H b = some (.tup xs) → H' b = some (.tup xs)) : Told H' v n ga cols cap := ⟨m _ _ h.tup, m _ _ h.cols⟩
def spWhole : Sp := fun vs H Q _ => ∃ (t k v ga : Addr) (m : Nat) (ts : List (Str × Int)) (ks : List KeyE) (n : Str) (w : Int) (cols : List Int) (cap : Option Int), vs = [.ref t, .ref k, .ref v] ∧ DctAt H t (tabK ts) ∧ DctAt H k (keyK ks) ∧ Tabs ts m 100 ∧ Keys H ts ks ∧
  Told H v n ga cols cap ∧ (n, w) ∈ ts ∧ cols.length ≤ 100 ∧ ∀ H', Same H H' → Q (.bl (isWh w ks n cols cap)) H'
/-! ### _law_services -/
structure SvE where
  name : Str
  at_ : Addr
  tab : Str
  ga : Addr
  cols : List Int
  cap : Option Int
def svK (ss : List SvE) : List (Key × V) := ss.map fun b => (Sum.inr b.name, V.ref b.at_)
theorem keys_sv (ss : List SvE) : (svK ss).map (·.1) = (ss.map (·.name)).map Sum.inr := by
  unfold svK
  rw [List.map_map, List.map_map]
  rfl
def widthAt (ts : List (Str × Int)) (n : Str) : Int := ((ts.find? fun b => decide (b.1 = n)).map (·.2)).getD 0
theorem widthAt_mem {n : Str} {w : Int} : ∀ {ts : List (Str × Int)}, (ts.map (·.1)).Nodup → (n, w) ∈ ts → widthAt ts n = w
  | b :: ts, nd, h => by
    rw [List.map_cons] at nd
    have nd' := List.nodup_cons.mp nd
    unfold widthAt
    by_cases e : b.1 = n
    · rcases List.mem_cons.mp h with h' | h'
      · rw [← h']
        simp
      · exact absurd (by rw [e]; exact List.mem_map.mpr ⟨_, h', rfl⟩) nd'.1
    · rcases List.mem_cons.mp h with h' | h'
      · exact absurd (by rw [← h']) e
      · have ih := widthAt_mem nd'.2 h'
        unfold widthAt at ih
        simpa [e] using ih
/-- is the service whole -/
def whE (ts : List (Str × Int)) (ks : List KeyE) (b : SvE) : Bool := isWh (widthAt ts b.tab) ks b.tab b.cols b.cap
def fillE (ts : List (Str × Int)) (ks : List KeyE) (ss : List SvE) : List Str := (ss.filter fun b => !whE ts ks b).map (·.tab)
theorem fillE_snoc (ts : List (Str × Int)) (ks : List KeyE) (ss : List SvE) (b : SvE) : fillE ts ks (ss ++ [b]) = fillE ts ks ss ++ (if whE ts ks b = true then [] else [b.tab]) := by
  unfold fillE
  rw [List.filter_append, List.map_append]
  cases e : whE ts ks b <;> simp [e]
structure SvOk (H : Hp) (ts : List (Str × Int)) (b : SvE) : Prop where
  told : Told H b.at_ b.tab b.ga b.cols b.cap
  ok : ∃ w, (b.tab, w) ∈ ts ∧ Cols b.cols w ∧ b.cols.length ≤ 4
  cap : ∀ c, b.cap = some c → 1 ≤ c ∧ c ≤ 4
theorem SvOk.mono {H H' : Hp} {ts : List (Str × Int)} {b : SvE} (h : SvOk H ts b) (m : ∀ b xs, H b = some (.tup xs) → H' b = some (.tup xs)) : SvOk H' ts b := ⟨h.told.mono m, h.ok, h.cap⟩
structure Svcs (H : Hp) (ts : List (Str × Int)) (ks : List KeyE) (ss : List SvE) (n : Nat) : Prop where
  nm : Nms (ss.map (·.name)) n
  ok : ∀ b ∈ ss, SvOk H ts b
  one : (fillE ts ks ss).Nodup
theorem Svcs.mono {H H' : Hp} {ts : List (Str × Int)} {ks : List KeyE} {ss : List SvE} {n : Nat} (h : Svcs H ts ks ss n) (m : ∀ b xs, H b = some (.tup xs) → H' b = some (.tup xs)) : Svcs H' ts ks ss n := ⟨h.nm, fun b hb => (h.ok b hb).mono m, h.one⟩
theorem inV_strs (n : Str) (xs : List Str) : inV (.str n) (xs.map V.str) = decide (n ∈ xs) := by
  unfold inV
  rw [List.any_map]
  apply Bool.eq_iff_iff.mpr
  rw [List.any_eq_true, decide_eq_true_iff]
  constructor
  · rintro ⟨x, hx, e⟩
    have e' : decide (x = n) = true := e
    rw [← of_decide_eq_true e']
    exact hx
  · intro h
    exact ⟨n, h, decide_eq_true rfl⟩
theorem flat_strs (xs : List Str) : (xs.map V.str).all flatV = true := by
  rw [List.all_map, List.all_eq_true]
  intro _ _
  rfl
/-- while the services are made -/
structure SvMade (p t k ca l1 l2 s f : Addr) (ts : List (Str × Int)) (ks : List KeyE) (cps : List (Option Int)) (ns : List Str) (H0 H : Hp) (ss : List SvE) (fl : List Str) : Prop where
  chg : Chg p H0 H
  sv : H s = some (.dK (svK ss))
  fil : H f = some (.lst (fl.map V.str))
  ord : H l1 = some (.lst ((ts.map (·.1)).map V.str))
  nam : H l2 = some (.lst (ns.map V.str))
  tabs : H t = some (.dK (tabK ts))
  keys : H k = some (.dK (keyK ks))
  caps : H ca = some (.lst (cps.map capV))
  kok : Keys H ts ks
  ok : ∀ b ∈ ss, SvOk H ts b
structure SvNe (p t k ca l1 l2 s f : Addr) (H0 : Hp) : Prop where
  s0 : H0 s = none
  f0 : H0 f = none
  sp : s ≠ p
  fp : f ≠ p
  cp : ca ≠ p
  p1 : l1 ≠ p
  p2 : l2 ≠ p
  f1 : l1 ≠ f
  f2 : l2 ≠ f
  fc : ca ≠ f
theorem SvMade.go {p t k ca l1 l2 s f : Addr} {ts : List (Str × Int)} {ks : List KeyE} {cps : List (Option Int)} {ns : List Str} {H0 H H' : Hp} {ss : List SvE} {fl : List Str} (h : SvMade p t k ca l1 l2 s f ts ks cps ns H0 H ss fl) (n : SvNe p t k ca l1 l2 s f H0) (c : Chg p H H') : SvMade p t k ca l1 l2 s f ts ks cps ns H0 H' ss fl := by
  have m := chg_tup h.chg.1 c
  have d : ∀ {b : Addr} {kvs : List (Key × V)}, H b = some (.dK kvs) → H' b = some (.dK kvs) := fun e => c.at (pool_ne h.chg.1 e (by intro _ z; cases z)) e
  exact ⟨h.chg.trans c, d h.sv, c.at n.fp h.fil, c.at n.p1 h.ord, c.at n.p2 h.nam, d h.tabs, d h.keys, c.at n.cp h.caps, h.kok.mono m, fun b hb => (h.ok b hb).mono m⟩
theorem SvMade.same {p t k ca l1 l2 s f : Addr} {ts : List (Str × Int)} {ks : List KeyE} {cps : List (Option Int)} {ns : List Str} {H0 H H' : Hp} {ss : List SvE} {fl : List Str} (h : SvMade p t k ca l1 l2 s f ts ks cps ns H0 H ss fl) (n : SvNe p t k ca l1 l2 s f H0) (c : Same H H') : SvMade p t k ca l1 l2 s f ts ks cps ns H0 H' ss fl :=
  h.go n ⟨h.chg.1.same c, fun b o _ e => c b o e⟩
theorem SvMade.fill {p t k ca l1 l2 s f : Addr} {ts : List (Str × Int)} {ks : List KeyE} {cps : List (Option Int)} {ns : List Str} {H0 H : Hp} {ss : List SvE} {fl gl : List Str} (h : SvMade p t k ca l1 l2 s f ts ks cps ns H0 H ss fl) (n : SvNe p t k ca l1 l2 s f H0) : SvMade p t k ca l1 l2 s f ts ks cps ns H0 (upd H f (.lst (gl.map V.str))) ss gl := by
  have m : ∀ b xs, H b = some (.tup xs) → upd H f (.lst (gl.map V.str)) b = some (.tup xs) := upd_tup h.fil (by intro _ z; cases z)
  have d : ∀ {b : Addr} {kvs : List (Key × V)}, H b = some (.dK kvs) → upd H f (.lst (gl.map V.str)) b = some (.dK kvs) := fun e => by
    rw [upd_ne (ne_of e h.fil (by intro z; cases z))]
    exact e
  exact ⟨h.chg.mut n.f0 n.fp, d h.sv, upd_same, by rw [upd_ne n.f1]; exact h.ord, by rw [upd_ne n.f2]; exact h.nam, d h.tabs, d h.keys, by rw [upd_ne n.fc]; exact h.caps, h.kok.mono m, fun b hb => (h.ok b hb).mono m⟩
theorem SvMade.put {p t k ca l1 l2 s f : Addr} {ts : List (Str × Int)} {ks : List KeyE} {cps : List (Option Int)} {ns : List Str} {H0 H : Hp} {ss : List SvE} {fl : List Str} {b : SvE} (h : SvMade p t k ca l1 l2 s f ts ks cps ns H0 H ss fl) (n : SvNe p t k ca l1 l2 s f H0) (ht : H0 t ≠ none) (hk : H0 k ≠ none) (hb : SvOk H ts b) :
    SvMade p t k ca l1 l2 s f ts ks cps ns H0 (upd H s (.dK (svK (ss ++ [b])))) (ss ++ [b]) fl := by
  have m : ∀ c xs, H c = some (.tup xs) → upd H s (.dK (svK (ss ++ [b]))) c = some (.tup xs) := upd_tup h.sv (by intro _ z; cases z)
  have l : ∀ {c : Addr} {xs : List V}, H c = some (.lst xs) → upd H s (.dK (svK (ss ++ [b]))) c = some (.lst xs) := fun e => by
    rw [upd_ne (ne_of e h.sv (by intro z; cases z))]
    exact e
  have nts : t ≠ s := fun e => ht (by rw [e]; exact n.s0)
  have nks : k ≠ s := fun e => hk (by rw [e]; exact n.s0)
  refine ⟨h.chg.mut n.s0 n.sp, upd_same, l h.fil, l h.ord, l h.nam, by rw [upd_ne nts]; exact h.tabs, by rw [upd_ne nks]; exact h.keys, l h.caps, h.kok.mono m, fun c hc => ?_⟩
  rcases List.mem_append.mp hc with e | e
  · exact (h.ok c e).mono m
  · rw [List.mem_singleton.mp e]
    exact hb.mono m
def spServices : Sp := fun vs H Q _ => ∃ (p t k ca : Addr) (m more : Nat) (ts : List (Str × Int)) (ks : List KeyE) (cps : List (Option Int)), vs = [.ref p, .ref t, .ref k, .ref ca, .int (more : Int)] ∧ PoolAt H p ∧ H t = some (.dK (tabK ts)) ∧ H k = some (.dK (keyK ks)) ∧ Tabs ts m 100 ∧ 1 ≤ m ∧ m + more ≤ 26 ∧ Keys H ts ks ∧
  H ca = some (.lst (cps.map capV)) ∧ ca ≠ p ∧ 1 ≤ cps.length ∧ cps.length ≤ 100 ∧ (∀ c, some c ∈ cps → 1 ≤ c ∧ c ≤ 4) ∧
  ∀ (s : Addr) (ss : List SvE) (H' : Hp), H s = none → H' s = some (.dK (svK ss)) → Svcs H' ts ks ss (m + more) → Chg p H H' → Q (.ref s) H'
end
theorem lc_str {x : Str} {g : TG} {tt : TT} {te : TE} {vs : List Nat} {σ : L2.St} {H1 : Hp} {D : Addr} {Qd : Hp → Prop} (Pv : Nat → Hp → Prop) (h0 : Pv 0 (upd H1 D (.lst [])))
    (hs : ∀ i c H, x.cps[i]? = some c → Pv i H → g (.str ⟨#[c]⟩) (wipe σ vs) H fun σ2 H2 => wipe σ2 vs = wipe σ vs ∧ tt σ2 H2 fun b H3 =>
      if b = true then te σ2 H3 fun y H4 => ∃ acc, H4 D = some (.lst acc) ∧ acc.length < sizeLine ∧ Pv (i + 1) (upd H4 D (.lst (acc ++ [y]))) else Pv (i + 1) H3) (hd : ∀ H, Pv x.cps.size H → Qd H) :
    ∃ W : Nat → Nat → Hp → Prop, (∃ m, W 0 m (upd H1 D (.lst []))) ∧ ∀ i m H, W i m H →
      ((Its x).stop i H ∧ Qd H) ∨ ((Its x).go i H ∧ ∃ Nx : Hp → Prop, (∀ H', Nx H' → ∃ m', m' < m ∧ W (i + 1) m' H') ∧ ∀ v H', (Its x).yld i H v H' → g v (wipe σ vs) H' fun σ2 H2 => wipe σ2 vs = wipe σ vs ∧ tt σ2 H2 fun b H3 =>
        if b = true then te σ2 H3 fun y H4 => ∃ acc, H4 D = some (.lst acc) ∧ acc.length < sizeLine ∧ Nx (upd H4 D (.lst (acc ++ [y]))) else Nx H3) := by
  refine ⟨fun i m H => m = x.cps.size - i ∧ i ≤ x.cps.size ∧ Pv i H, ⟨x.cps.size, by simp, Nat.zero_le _, h0⟩, ?_⟩
  rintro i m H ⟨rfl, hi, p⟩
  by_cases hlt : i < x.cps.size
  · refine .inr ⟨hlt, Pv (i + 1), fun H' p' => ⟨x.cps.size - (i + 1), by omega, rfl, hlt, p'⟩, fun v H' y => ?_⟩
    obtain ⟨e, c, hc, ev⟩ := y
    subst e
    subst ev
    exact hs i c _ hc p
  · have e : i = x.cps.size := by omega
    subst e
    exact .inl ⟨Nat.le_refl _, hd H p⟩
/-! ### words and values -/
def okC (c : Nat) : Bool := decide (97 ≤ c ∧ c ≤ 122)
def wordB (s : Str) : Bool := decide (1 ≤ s.length ∧ s.length ≤ 8) && s.cps.toList.all okC
def wordV : V → Bool
  | .str s => wordB s
  | _ => false
def valV' : V → Bool
  | .int i => decide (-999999999999999999999999999999 ≤ i ∧ i ≤ 999999999999999999999999999999)
  | .str s => wordB s
  | _ => false
inductive Thg (H : Hp) : V → Prop
  | int (i : Int) : Thg H (.int i)
  | bl (b : Bool) : Thg H (.bl b)
  | non : Thg H .non
  | str (s : Str) (h : s.length ≤ 1000) (hc : ∀ c ∈ s.cps.toList, c < 128) : Thg H (.str s)
  | lst {a : Addr} {xs : List V} (e : H a = some (.lst xs)) : Thg H (.ref a)
  | tup {a : Addr} {xs : List V} (e : H a = some (.tup xs)) : Thg H (.ref a)
theorem Thg.same {H H' : Hp} {v : V} (h : Thg H v) (s : Same H H') : Thg H' v := by
  cases h with
  | int i => exact .int i
  | bl b => exact .bl b
  | non => exact .non
  | str s h hc => exact .str s h hc
  | lst e => exact .lst (s _ _ e)
  | tup e => exact .tup (s _ _ e)
def tyInt : V → Bool
  | .int _ => true
  | .bl _ => true
  | _ => false
def tyBool : V → Bool
  | .bl _ => true
  | _ => false
def plainV (v : V) : Bool := tyInt v && !tyBool v
def tyStr : V → Bool
  | .str _ => true
  | _ => false
section
variable {K : PySem.W.Frag} {H : Hp} {v : V} {Q : VK}
theorem Thg.ty (h : Thg H v) : ∃ n, TyX K H v (.type n) ∧ kitB n "int" = some (tyInt v) ∧ kitB n "bool" = some (tyBool v) ∧ kitB n "str" = some (tyStr v) := by
  cases h with
  | int i => exact ⟨_, .base (.int _), show kitB "int" "int" = some true by decide +kernel, show kitB "int" "bool" = some false by decide +kernel, show kitB "int" "str" = some false by decide +kernel⟩
  | bl b => exact ⟨_, .base (.bl _), show kitB "bool" "int" = some true by decide +kernel, show kitB "bool" "bool" = some true by decide +kernel, show kitB "bool" "str" = some false by decide +kernel⟩
  | non => exact ⟨_, .base .non, show kitB "NoneType" "int" = some false by decide +kernel, show kitB "NoneType" "bool" = some false by decide +kernel, show kitB "NoneType" "str" = some false by decide +kernel⟩
  | str s => exact ⟨_, .base (.str _), show kitB "str" "int" = some false by decide +kernel, show kitB "str" "bool" = some false by decide +kernel, show kitB "str" "str" = some true by decide +kernel⟩
  | lst e => exact ⟨_, .base (.lst e), show kitB "list" "int" = some false by decide +kernel, show kitB "list" "bool" = some false by decide +kernel, show kitB "list" "str" = some false by decide +kernel⟩
  | tup e => exact ⟨_, .base (.tup e), show kitB "tuple" "int" = some false by decide +kernel, show kitB "tuple" "bool" = some false by decide +kernel, show kitB "tuple" "str" = some false by decide +kernel⟩
end
def spB (f : V → Bool) : Sp := fun vs H Q _ => ∃ v : V, vs = [v] ∧ Thg H v ∧ ∀ H', Same H H' → Q (.bl (f v)) H'
theorem sgn_le {c : Nat} : ((!decide (([c] : List Nat) < [97])) && (!decide (([122] : List Nat) < [c]))) = okC c := by
  have h1 : (([c] : List Nat) < [97]) ↔ c < 97 := by rw [List.cons_lt_cons_iff]; simp
  have h2 : (([122] : List Nat) < [c]) ↔ 122 < c := by rw [List.cons_lt_cons_iff]; simp
  unfold okC
  simp only [h1, h2]
  by_cases a : c < 97 <;> by_cases b : 122 < c <;> simp [a, b] <;> omega
theorem sgn_in : ∀ {c : Nat}, decide (c ∈ ("abcdefghijklmnopqrstuvwxyz" : Str).cps.toList) = okC c := by
  intro c
  by_cases h : c < 128
  · exact (show ∀ c : Nat, c < 128 → decide (c ∈ ("abcdefghijklmnopqrstuvwxyz" : Str).cps.toList) = okC c by decide +kernel) c h
  · have e1 : okC c = false := by
      unfold okC
      exact decide_eq_false (by omega)
    rw [e1]
    refine decide_eq_false fun hm => ?_
    have := (show ∀ c ∈ ("abcdefghijklmnopqrstuvwxyz" : Str).cps.toList, c < 128 by decide +kernel) c hm
    omega
section
variable {P : Program} {w : World} {K : PySem.W.Frag} {mg : Str → Option Value} {base : Heap} {a : Nat → Addr} {d : Nat → FuncData}
theorem ok_plain (T : Txt K mg a d) : FnOk P w K mg base CX0 1 (a 12) (d 12) ["thing"] (spB plainV) := by
  refine T.F12.ok sc_is_plain_int (fun vs H Q E h => ?_) (fun cdv A outer s H vs Q E hr h => ?_)
  · obtain ⟨v, rfl, _⟩ := h
    rfl
  · obtain ⟨v, rfl, hv, q⟩ := h
    refine ⟨_, (pss_one (ps_ret (pe_and (pe_callB (id := "isinstance")  call_isi (by rfl) T.z_isinstance (by decide +kernel) (pa_cons (pv 0) (pa_cons (pe_bltn (v := .ty "int") (by rfl) T.z_int (by decide +kernel) rfl) pa_nil))) (pe_one (pe_not (pe_callB (id := "isinstance")  call_isi (by rfl) T.z_isinstance (by decide +kernel) (pa_cons (pv 0) (pa_cons (pe_bltn (v := .ty "bool") (by rfl) T.z_bool (by decide +kernel) rfl) pa_nil)))))))), ?_⟩
    obtain ⟨n, ht, k1, k2, k3⟩ := hv.ty (K := K)
    refine ⟨_, rfl, _, _, _, _, _, rfl, .ty _, ht, kit_ty k1, _, rfl, ?_⟩
    have q : Q (.bl (tyInt v && !tyBool v)) H := q H (Same.refl H)
    refine ite2 (fun e => ?_) (fun e => ?_)
    · rw [e] at q
      exact ⟨_, rfl, _, _, _, _, _, rfl, .ty _, ht, kit_ty k2, _, rfl, q⟩
    · rw [Bool.eq_false_iff.mpr e] at q
      exact q
theorem ok_is_word (T : Txt K mg a d) : FnOk P w K mg base CX0 1 (a 13) (d 13) ["thing"] (spB wordV) := by
  refine T.F13.ok sc_is_word (fun vs H Q E h => ?_) (fun cdv A outer s H vs Q E hr h => ?_)
  · obtain ⟨v, rfl, _⟩ := h
    rfl
  · obtain ⟨v, rfl, hv, q⟩ := h
    obtain ⟨t8, h_LONGEST_WORD⟩ := T.c_LONGEST_WORD
    refine ⟨_, (pss_cons (ps_if (PW.pt (pw_or (pt_not (pt_val (pe_callB (id := "isinstance")  call_isi (by rfl) T.z_isinstance (by decide +kernel) (pa_cons (pv 0) (pa_cons (pe_bltn (v := .ty "str") (by rfl) T.z_str (by decide +kernel) rfl) pa_nil))))) (pw_or1 (pt_not (pt_chain op_le op_le pe_int (pe_callB (id := "len")  call_len_str (by rfl) T.z_len (by decide +kernel) (pa_cons (pv 0) pa_nil)) (pe_glob (v := .int (8)) rfl h_LONGEST_WORD ⟨_, rfl⟩))))))
    (pss_one (ps_ret pe_bl))
    pss_nil)
  (pss_one (ps_ret (pe_callB (id := "all")  (cr_all rfl) (by rfl) T.z_all (by decide +kernel) (pa_cons (pe_lc (own := [("letter", 1)]) rfl sc_is_word.nd (pi_str (pv 0)) (blkOk_by (N := ["thing", "letter"]) (sc := defScope s_is_word) (by decide +kernel)) (fun _ _ _ _ _ => pg_name (i := 1) sc_is_word.nd rfl (.inl rfl)) (fun _ _ _ _ _ => pts_nil) (fun _ _ _ _ _ => (pe_chain op_le_str op_le_str pe_str (pv 1) pe_str))) pa_nil))))), ?_⟩
    obtain ⟨n, ht, k1, k2, k3⟩ := hv.ty (K := K)
    refine ⟨_, rfl, _, _, _, _, _, rfl, .ty _, ht, kit_ty k3, _, rfl, ?_⟩
    cases hv with
    | int i => exact q H (Same.refl H)
    | bl i => exact q H (Same.refl H)
    | non => exact q H (Same.refl H)
    | lst e => exact q H (Same.refl H)
    | tup e => exact q H (Same.refl H)
    | str s hl hc =>
      have q : ∀ H', Same H H' → Q (.bl (decide (1 ≤ s.length ∧ s.length ≤ 8) && s.cps.toList.all okC)) H' := q
      refine ⟨_, rfl, _, rfl, small1000' hl, _, _, rfl, rfl, _, rfl, ?_⟩
      refine ite_d (fun h1 => ?_) (fun h1 => ?_)
      · refine ⟨_, _, rfl, rfl, _, rfl, ?_⟩
        refine ite_nd (fun h2 => ?_) (fun h2 => ?_)
        · have e : decide (1 ≤ s.length ∧ s.length ≤ 8) = false := decide_eq_false (by omega)
          rw [e] at q
          exact q H (Same.refl H)
        · have e : decide (1 ≤ s.length ∧ s.length ≤ 8) = true := decide_eq_true (by omega)
          rw [e] at q
          refine ⟨_, rfl, _, rfl, fun D hD => ?_⟩
          refine lc_str (fun i H' => H' D = some (.lst (((s.cps.toList.take i).map okC).map V.bl)) ∧ Same H H') ⟨upd_same, same_upd hD⟩ (fun i c H' hx hp => ?_) (fun H' hp => ?_)
          · have hx' : s.cps.toList[i]? = some c := by rw [Array.getElem?_toList]; exact hx
            have hsz : (((s.cps.toList.take i).map okC).map V.bl).length < sizeLine := by
              rw [List.length_map, List.length_map, List.length_take]
              have : s.cps.toList.length = s.length := Array.length_toList
              exact small1000 (by omega)
            have step : ∀ b, b = okC c → ∀ H3, H3 = H' → (upd H3 D (.lst (((s.cps.toList.take i).map okC).map V.bl ++ [.bl b]))) D = some (.lst (((s.cps.toList.take (i + 1)).map okC).map V.bl)) ∧ Same H (upd H3 D (.lst (((s.cps.toList.take i).map okC).map V.bl ++ [.bl b]))) := fun b eb H3 e3 => by
              subst e3
              refine ⟨?_, fun x o ex => ?_⟩
              · rw [map_take hx', List.map_append, ← eb]
                exact upd_same
              · rw [upd_ne (ne_of_none ex hD)]
                exact hp.2 x o ex
            have e0 : ("a" : Str).cps.toList = [97] := by decide +kernel
            have e9 : ("z" : Str).cps.toList = [122] := by decide +kernel
            have eo := sgn_le (c := c)
            refine ⟨rfl, ?_⟩
            refine ⟨_, rfl, _, _, rfl, rfl, _, rfl, ?_⟩
            refine ite_nd (fun h3 => ?_) (fun h3 => ?_)
            · rw [e0] at h3
              have h3' : ¬ ([c] : List Nat) < [97] := h3
              rw [decide_eq_false h3'] at eo
              refine ⟨_, _, rfl, rfl, _, hp.1, hsz, step _ ?_ _ rfl⟩
              rw [e9]
              exact eo
            · rw [e0] at h3
              have h3' : ([c] : List Nat) < [97] := h3
              rw [decide_eq_true h3'] at eo
              exact ⟨_, hp.1, hsz, step _ eo _ rfl⟩
          · obtain ⟨h3, h4⟩ := hp
            have et : s.cps.toList.take s.cps.size = s.cps.toList := List.take_of_length_le (Nat.le_of_eq Array.length_toList)
            rw [et] at h3
            refine ⟨D, _, rfl, .of h3, ?_⟩
            have ea : ((s.cps.toList.map okC).all id) = s.cps.toList.all okC := by rw [List.all_map]; rfl
            rw [ea]
            exact q H' h4
      · have e : decide (1 ≤ s.length ∧ s.length ≤ 8) = false := decide_eq_false (by omega)
        rw [e] at q
        exact ⟨_, rfl, q H (Same.refl H)⟩
end
section
variable {P : Program} {w : World} {K : PySem.W.Frag} {mg : Str → Option Value} {base : Heap} {a : Nat → Addr} {d : Nat → FuncData}
theorem ok_is_value (T : Txt K mg a d) : FnOk P w K mg base CX0 2 (a 14) (d 14) ["thing"] (spB valV') := by
  have G12 : FnOk P w K mg base CX0 1 (a 12) (d 12) ["thing"] (spB plainV) := ok_plain T
  have G13 : FnOk P w K mg base CX0 1 (a 13) (d 13) ["thing"] (spB wordV) := ok_is_word T
  refine T.F14.ok sc_is_value (fun vs H Q E h => ?_) (fun cdv A outer s H vs Q E hr h => ?_)
  · obtain ⟨v, rfl, _⟩ := h
    rfl
  · obtain ⟨v, rfl, hv, q⟩ := h
    obtain ⟨t9, h_GREATEST_VALUE⟩ := T.c_GREATEST_VALUE
    refine ⟨_, (pss_cons (ps_if (pt_val (pe_call G12 (hr.mono (by decide)) (by rfl) T.g12 T.F12.kp T.b12 .nil pass0 (pa_cons (pv 0) pa_nil)))
    (pss_one (ps_ret (pe_chain op_le op_le (pe_un un_neg (pe_glob (v := .int (999999999999999999999999999999)) rfl h_GREATEST_VALUE ⟨_, rfl⟩)) (pv 0) (pe_glob (v := .int (999999999999999999999999999999)) rfl h_GREATEST_VALUE ⟨_, rfl⟩))))
    pss_nil)
  (pss_one (ps_ret (pe_call G13 (hr.mono (by decide)) (by rfl) T.g13 T.F13.kp T.b13 .nil pass0 (pa_cons (pv 0) pa_nil))))), ?_⟩
    refine ⟨_, rfl, v, rfl, hv, fun H1 s1 => ⟨_, rfl, ?_⟩⟩
    have word : ∀ H1, Same H H1 → valV' v = wordV v → tRet (tCall (spB wordV) [] (fun _ _ _ => False) (tCons (tVar 0) tNil)) { nx := fun _ H' => Q .non H', rt := Q } [some v] H1 := fun H1 s1 ev => ⟨_, rfl, v, rfl, hv.same s1, fun H2 s2 => by
      rw [← ev]
      exact q H2 (s1.trans s2)⟩
    cases hv with
    | int i =>
      refine ⟨_, rfl, _, rfl, _, _, rfl, rfl, _, rfl, ?_⟩
      have q1 := q H1 s1
      refine ite_d (fun h2 => ?_) (fun h2 => ?_)
      · refine ⟨_, _, rfl, rfl, ?_⟩
        have e : decide (i ≤ 999999999999999999999999999999) = decide (-999999999999999999999999999999 ≤ i ∧ i ≤ 999999999999999999999999999999) := by
          by_cases h3 : i ≤ 999999999999999999999999999999
          · rw [decide_eq_true h3, decide_eq_true ⟨h2, h3⟩]
          · rw [decide_eq_false h3, decide_eq_false (fun x => h3 x.2)]
        show Q (.bl (decide (i ≤ 999999999999999999999999999999))) H1
        rw [e]
        exact q1
      · have e : decide (-999999999999999999999999999999 ≤ i ∧ i ≤ 999999999999999999999999999999) = false := decide_eq_false (fun x => h2 x.1)
        have q1 : Q (.bl (decide (-999999999999999999999999999999 ≤ i ∧ i ≤ 999999999999999999999999999999))) H1 := q1
        rw [e] at q1
        exact q1
    | bl b => exact word H1 s1 rfl
    | non => exact word H1 s1 rfl
    | str s h hc => exact word H1 s1 rfl
    | lst e => exact word H1 s1 rfl
    | tup e => exact word H1 s1 rfl
end
theorem paired_snoc {α β : Type} {R : α → β → Prop} {x : α} {y : β} : ∀ {xs : List α} {ys : List β}, Paired R xs ys → R x y → Paired R (xs ++ [x]) (ys ++ [y])
  | _, _, .nil, h => .cons h .nil
  | _, _, .cons r t, h => .cons r (paired_snoc t h)
/-! ### rows of values: their order -/
abbrev RowK := List Key
def item : Key → Int ⊕ List Nat
  | .inl i => .inl i
  | .inr s => .inr s.cps.toList
theorem item_inj {a b : Key} (h : item a = item b) : a = b := by
  cases a <;> cases b
  · exact congrArg Sum.inl (Sum.inl.inj h)
  · cases h
  · cases h
  · rename_i x y
    have e : x.cps.toList = y.cps.toList := Sum.inr.inj h
    have e2 : x = y := by
      cases x
      cases y
      exact congrArg Str.mk (Array.toList_inj.mp e)
    rw [e2]
def toks (r : RowK) : List (Int ⊕ List Nat) := r.map item
def rowLt (a b : RowK) : Bool := PyProof.Rows.lexLt PyProof.Rows.itemOrd (toks a) (toks b)
def isStrK : Key → Bool
  | .inl _ => false
  | .inr _ => true
def keyD : Key → PyData
  | .inl i => .int i
  | .inr s => .str s
def pairD (k : Key) : PyData := .tuple [.bool (isStrK k), keyD k]
def rowD (r : RowK) : PyData := .tuple (r.map pairD)
def tokP : PyData → Int ⊕ List Nat
  | .tuple [_, .int i] => .inl i
  | .tuple [_, .str s] => .inr s.cps.toList
  | _ => .inl 0
def tokD : PyData → List (Int ⊕ List Nat)
  | .tuple ps => ps.map tokP
  | _ => []
theorem tokP_pair (k : Key) : tokP (pairD k) = item k := by cases k <;> rfl
theorem tokD_row (r : RowK) : tokD (rowD r) = toks r := by
  show (r.map pairD).map tokP = r.map item
  rw [List.map_map]
  exact List.map_congr_left fun k _ => tokP_pair k
theorem eqv_key (x y : Key) : PyData.eqv (keyD x) (keyD y) = decide (x = y) := by
  cases x <;> cases y <;> simp [keyD, PyData.eqv]
  · rename_i a b
    exact Bool.eq_iff_iff.mpr (by simp)
  · rename_i a b
    exact Bool.eq_iff_iff.mpr (by simp)
theorem eqv_pair (x y : Key) : PyData.eqv (pairD x) (pairD y) = decide (x = y) := by
  have h := eqv_key x y
  unfold pairD
  simp only [PyData.eqv, PyData.eqvAll, h, Bool.and_true]
  cases x <;> cases y <;> simp [isStrK]
theorem ok_pair {x y : Key} (h : x ≠ y) : SK.okLt (pairD x) (pairD y) = true := by
  have hk := eqv_key x y
  rw [decide_eq_false h] at hk
  cases x <;> cases y <;> simp [pairD, SK.okLt, SK.okAll, isStrK, PyData.eqv] <;> first | trivial | (rw [hk]; simp [keyD, SK.okLt])
theorem lt_pair {x y : Key} (h : x ≠ y) : SK.ltD (pairD x) (pairD y) = PyProof.Rows.itemLt (item x) (item y) := by
  have hk := eqv_key x y
  rw [decide_eq_false h] at hk
  cases x <;> cases y <;> simp [pairD, SK.ltD, SK.ltAll, isStrK, PyData.eqv]
  · rw [hk]
    simp [keyD, SK.ltD, item, PyProof.Rows.itemLt]
  · simp only [item, PyProof.Rows.itemLt]
    decide
  · simp only [item, PyProof.Rows.itemLt]
    decide
  · rw [hk]
    simp [keyD, SK.ltD, item, PyProof.Rows.itemLt, PyProof.Rows.strKind]
theorem item_total {x y : Key} (h : x ≠ y) : PyProof.Rows.itemLt (item y) (item x) = !PyProof.Rows.itemLt (item x) (item y) := by
  have a : PyProof.Rows.itemLt (item x) (item y) = false → PyProof.Rows.itemLt (item y) (item x) = false → item x = item y := PyProof.Rows.itemOrd.total _ _
  have b : PyProof.Rows.itemLt (item x) (item y) = true → PyProof.Rows.itemLt (item y) (item x) = true → False := fun h1 h2 => by
    have h3 := PyProof.Rows.itemOrd.trans _ _ _ h1 h2
    rw [PyProof.Rows.itemOrd.irrefl] at h3
    cases h3
  cases h1 : PyProof.Rows.itemLt (item x) (item y) <;> cases h2 : PyProof.Rows.itemLt (item y) (item x)
  · exact absurd (item_inj (a h1 h2)) h
  · rfl
  · rfl
  · exact (b h1 h2).elim
theorem rowLt_cons (x y : Key) (r t : RowK) : rowLt (x :: r) (y :: t) = if x = y then rowLt r t else PyProof.Rows.itemLt (item x) (item y) := by
  show (PyProof.Rows.itemLt (item x) (item y) || (!PyProof.Rows.itemLt (item y) (item x) && rowLt r t)) = _
  by_cases h : x = y
  · subst h
    rw [if_pos rfl, show PyProof.Rows.itemLt (item x) (item x) = false from PyProof.Rows.itemOrd.irrefl _]
    simp
  · rw [if_neg h, item_total h]
    cases PyProof.Rows.itemLt (item x) (item y) <;> simp
theorem ok_rows : ∀ a b : RowK, SK.okAll (a.map pairD) (b.map pairD) = true
  | [], _ => by cases ‹RowK› <;> simp [SK.okAll]
  | _ :: _, [] => by simp [SK.okAll]
  | x :: r, y :: t => by
    simp only [List.map_cons, SK.okAll, eqv_pair]
    by_cases h : x = y
    · rw [decide_eq_true h, if_pos rfl]
      exact ok_rows r t
    · rw [decide_eq_false h, if_neg (by decide)]
      exact ok_pair h
theorem lt_rows : ∀ a b : RowK, SK.ltAll (a.map pairD) (b.map pairD) = rowLt a b
  | [], [] => by simp [SK.ltAll, rowLt, toks, PyProof.Rows.lexLt]
  | [], _ :: _ => by simp [SK.ltAll, rowLt, toks, PyProof.Rows.lexLt]
  | _ :: _, [] => by simp [SK.ltAll, rowLt, toks, PyProof.Rows.lexLt]
  | x :: r, y :: t => by
    rw [rowLt_cons]
    simp only [List.map_cons, SK.ltAll, eqv_pair]
    by_cases h : x = y
    · rw [decide_eq_true h, if_pos rfl, if_pos h]
      exact lt_rows r t
    · rw [decide_eq_false h, if_neg (by decide), if_neg h]
      exact lt_pair h
theorem toks_inj : ∀ {a b : RowK}, toks a = toks b → a = b
  | [], [], _ => rfl
  | [], _ :: _, h => by cases h
  | _ :: _, [], h => by cases h
  | x :: r, y :: t, h => by
    have h1 : item x = item y := (List.cons.inj h).1
    have h2 : toks r = toks t := (List.cons.inj h).2
    rw [item_inj h1, toks_inj h2]
theorem rowLt_total {a b : RowK} (h1 : rowLt a b = false) (h2 : rowLt b a = false) : a = b := toks_inj ((PyProof.Rows.listOrd PyProof.Rows.itemOrd).total _ _ h1 h2)
theorem rowLt_trans {a b c : RowK} (h1 : rowLt a b = true) (h2 : rowLt b c = true) : rowLt a c = true := (PyProof.Rows.listOrd PyProof.Rows.itemOrd).trans _ _ _ h1 h2
theorem rowLt_irrefl (a : RowK) : rowLt a a = false := (PyProof.Rows.listOrd PyProof.Rows.itemOrd).irrefl _
theorem rowLt_neg {a b c : RowK} (h : rowLt a c = true) : rowLt a b = true ∨ rowLt b c = true := (PyProof.Rows.listOrd PyProof.Rows.itemOrd).negTrans _ _ _ h
/-- what may stand in a row: an int, a text of true code points -/
def KOk : Key → Prop
  | .inl _ => True
  | .inr s => PyData.strOk s = true
theorem lay_pair {k : Key} (h : KOk k) : (pairD k).canLay0 = true := by
  cases k with
  | inl i => simp [pairD, keyD, PyData.canLay0, PyData.canLayAll0]
  | inr s =>
    have h' : PyData.strOk s = true := h
    simp [pairD, keyD, PyData.canLay0, PyData.canLayAll0, h']
theorem lay_pairs : ∀ {r : RowK}, (∀ k ∈ r, KOk k) → PyData.canLayAll0 (r.map pairD) = true
  | [], _ => by simp [PyData.canLayAll0]
  | k :: r, h => by
    simp only [List.map_cons, PyData.canLayAll0, lay_pair (h k List.mem_cons_self), lay_pairs fun x hx => h x (List.mem_cons_of_mem _ hx), Bool.and_self]
theorem depth_pair (k : Key) : (pairD k).depth = 1 := by cases k <;> simp [pairD, keyD, PyData.depth, PyData.depthAll]
theorem depth_pairs : ∀ r : RowK, PyData.depthAll (r.map pairD) ≤ 1
  | [] => by simp [PyData.depthAll]
  | k :: r => by
    simp only [List.map_cons, PyData.depthAll, depth_pair]
    have := depth_pairs r
    omega
theorem rowD_depth (r : RowK) : (rowD r).depth ≤ 2 := by
  show PyData.depthAll (r.map pairD) + 1 ≤ 2
  have := depth_pairs r
  omega
theorem keys_rows (rs : List RowK) (h : ∀ r ∈ rs, ∀ k ∈ r, KOk k) : SK.Keys (rs.map rowD) tokD where
  lay d hd := by
    obtain ⟨r, hr, rfl⟩ := List.mem_map.mp hd
    show PyData.canLay0 (.tuple (r.map pairD)) = true
    simp only [PyData.canLay0]
    exact lay_pairs (h r hr)
  tup d hd := by
    obtain ⟨r, hr, rfl⟩ := List.mem_map.mp hd
    exact ⟨_, rfl⟩
  ok d hd d' hd' := by
    obtain ⟨r, hr, rfl⟩ := List.mem_map.mp hd
    obtain ⟨t, ht, rfl⟩ := List.mem_map.mp hd'
    show SK.okLt (.tuple (r.map pairD)) (.tuple (t.map pairD)) = true
    simp only [SK.okLt]
    exact ok_rows r t
  lt d hd d' hd' := by
    obtain ⟨r, hr, rfl⟩ := List.mem_map.mp hd
    obtain ⟨t, ht, rfl⟩ := List.mem_map.mp hd'
    rw [tokD_row, tokD_row]
    show SK.ltD (.tuple (r.map pairD)) (.tuple (t.map pairD)) = rowLt r t
    simp only [SK.ltD]
    exact lt_rows r t
  ty x r y t hx hy := by
    obtain ⟨a, ha, ea⟩ := List.mem_map.mp hx
    obtain ⟨b, hb, eb⟩ := List.mem_map.mp hy
    have first : ∀ (a : RowK) x r, rowD a = .tuple (x :: r) → ∃ ps, x = .tuple ps := fun a x r e => by
      cases a with
      | nil => cases e
      | cons k a =>
        have e' : PyData.tuple (pairD k :: a.map pairD) = .tuple (x :: r) := e
        injection e' with e'
        exact ⟨_, (List.cons.inj e').1.symm⟩
    obtain ⟨p1, rfl⟩ := first a x r ea
    obtain ⟨p2, rfl⟩ := first b y t eb
    rfl
/-! ### rows in the heap -/
/-- p is the tuple r -/
abbrev RowAt (H : Hp) (p : Addr) (r : RowK) : Prop := H p = some (.tup (r.map kV))
abbrev RowsAt (H : Hp) (L : List (Addr × RowK)) : Prop := ∀ b ∈ L, RowAt H b.1 b.2
theorem RowsAt.same {H H' : Hp} {L : List (Addr × RowK)} (h : RowsAt H L) (s : ∀ b o, H b = some o → H' b = some o) : RowsAt H' L := fun b hb => s _ _ (h b hb)
theorem snoc_ind {α : Type} {P : List α → Prop} (h0 : P []) (h1 : ∀ l a, P l → P (l ++ [a])) : ∀ l, P l := by
  intro l
  rw [← List.reverse_reverse l]
  induction l.reverse with
  | nil => exact h0
  | cons a t ih =>
    rw [List.reverse_cons]
    exact h1 _ _ ih
/-- the different rows, in the order of their first places -/
def add1 (acc : List RowK) (r : RowK) : List RowK := if (acc.any fun k => decide (k = r)) = true then acc else acc ++ [r]
def uniq (rs : List RowK) : List RowK := rs.foldl add1 []
theorem any_mem {acc : List RowK} {r : RowK} : (acc.any fun k => decide (k = r)) = true ↔ r ∈ acc := by
  rw [List.any_eq_true]
  constructor
  · rintro ⟨x, hx, e⟩
    rw [← of_decide_eq_true e]
    exact hx
  · exact fun h => ⟨r, h, decide_eq_true rfl⟩
theorem putK_uniq (ks : List RowK) (r : RowK) : (putK (ks.map fun k => (k, V.bl true)) r (.bl true)) = (add1 ks r).map fun k => (k, V.bl true) := by
  unfold putK add1
  have e : ((ks.map fun k => (k, V.bl true)).any fun kv => decide (kv.1 = r)) = (ks.any fun k => decide (k = r)) := by rw [List.any_map]; rfl
  rw [e]
  split
  · rw [List.map_map]
    exact List.map_congr_left fun k _ => by
      by_cases q : k = r
      · simp [q]
      · simp [q]
  · rw [List.map_append]
    rfl
theorem uniq_snoc (rs : List RowK) (r : RowK) : uniq (rs ++ [r]) = add1 (uniq rs) r := by
  unfold uniq
  rw [List.foldl_append]
  rfl
theorem uniq_all : ∀ rs : List RowK, (uniq rs).Nodup ∧ ∀ r, r ∈ uniq rs ↔ r ∈ rs := snoc_ind ⟨List.nodup_nil, fun r => Iff.rfl⟩ fun l a ih => by
  obtain ⟨h1, h2⟩ := ih
  rw [uniq_snoc]
  unfold add1
  by_cases h : ((uniq l).any fun k => decide (k = a)) = true
  · rw [if_pos h]
    refine ⟨h1, fun r => ?_⟩
    rw [h2, List.mem_append, List.mem_singleton]
    exact ⟨.inl, fun q => q.elim id fun e => by rw [e, ← h2]; exact any_mem.mp h⟩
  · rw [if_neg h]
    have h' : ¬ a ∈ uniq l := fun q => h (any_mem.mpr q)
    refine ⟨List.nodup_append.mpr ⟨h1, List.nodup_cons.mpr ⟨by simp, List.nodup_nil⟩, fun x hx y hy e => ?_⟩, fun r => ?_⟩
    · rw [List.mem_singleton.mp hy] at e
      exact h' (e ▸ hx)
    · rw [List.mem_append, List.mem_append, h2]
theorem uniq_len : ∀ rs : List RowK, (uniq rs).length ≤ rs.length := snoc_ind (Nat.le_refl _) fun l a ih => by
  rw [uniq_snoc, List.length_append]
  unfold add1
  split
  · exact Nat.le_succ_of_le ih
  · rw [List.length_append]
    exact Nat.add_le_add_right ih 1
/-- the rows sorted: each once, each before the next -/
structure SortedRows (L : List (Addr × RowK)) (rs : List RowK) : Prop where
  all : ∀ r, r ∈ L.map (·.2) ↔ r ∈ rs
  up : L.Pairwise fun a b => rowLt a.2 b.2 = true
  len : L.length ≤ rs.length
theorem nd_sub {α : Type} [DecidableEq α] : ∀ {xs ys : List α}, xs.Nodup → (∀ x ∈ xs, x ∈ ys) → xs.length ≤ ys.length ∧ (ys.length ≤ xs.length → ∀ y ∈ ys, y ∈ xs)
  | [], ys, _, _ => ⟨Nat.zero_le _, fun h y hy => by
    have : ys = [] := List.length_eq_zero_iff.mp (Nat.le_zero.mp h)
    rw [this] at hy
    exact hy⟩
  | x :: xs, ys, nd, sub => by
    obtain ⟨n1, n2⟩ := List.nodup_cons.mp nd
    have hx := sub x List.mem_cons_self
    have hl := List.length_erase_of_mem hx
    have hpos : 0 < ys.length := List.length_pos_of_mem hx
    have ih := nd_sub (ys := ys.erase x) n2 fun z hz => (List.mem_erase_of_ne (fun e => n1 (by rw [← e]; exact hz))).mpr (sub z (List.mem_cons_of_mem _ hz))
    refine ⟨by rw [List.length_cons]; omega, fun h y hy => ?_⟩
    rw [List.length_cons] at h
    by_cases e : y = x
    · rw [e]
      exact List.mem_cons_self
    · exact List.mem_cons_of_mem _ (ih.2 (by omega) y ((List.mem_erase_of_ne e).mpr hy))
theorem same_mut {H H1 : Hp} {D : Addr} {o : HO} (s : Same H H1) (h : H D = none) : Same H (upd H1 D o) := fun b u e => by
  rw [upd_ne (ne_of_none e h)]
  exact s b u e
theorem sv_nd {H : Hp} {ts : List (Str × Int)} {ks : List KeyE} {ss : List SvE} {n : Nat} (h : Svcs H ts ks ss n) : ((svK ss).map (·.1)).Nodup := by
  rw [keys_sv]
  exact inr_nd h.nm.nd
theorem Tabs.up {ts : List (Str × Int)} {m : Nat} {w v : Int} (h : Tabs ts m w) (hv : w ≤ v) : Tabs ts m v := ⟨h.nm, fun p hp => ⟨(h.wd p hp).1, Int.le_trans (h.wd p hp).2 hv⟩⟩
theorem wd_b {s : Str} (h : Wd s) : wordB s = true := by
  unfold wordB
  rw [decide_eq_true (show 1 ≤ s.length ∧ s.length ≤ 8 from ⟨h.1, h.2.1⟩), Bool.true_and, List.all_eq_true]
  intro c hc
  unfold okC
  exact decide_eq_true (h.2.2 c hc)
theorem wd_thg {H : Hp} {s : Str} (h : Wd s) : Thg H (.str s) := .str s (by have := h.2.1; omega) fun c hc => by have := (h.2.2 c hc).2; omega
theorem capV_none' {cap : Option Int} (h : cap.isNone = true) : capV cap = .non := by
  cases cap with
  | none => rfl
  | some c => cases h
theorem all_bls (bs : List Bool) : (bs.all id) = bs.all fun b => b := rfl
def spIsWh : Sp := fun vs H Q _ => ∃ (v t k ga : Addr) (n : Str) (cs : List Int) (cap : Option Int) (w : Int) (ts : List (Str × Int)) (ks : List KeyE) (m : Nat), vs = [.ref v, .ref t, .ref k] ∧ Told H v n ga cs cap ∧ DctAt H t (tabK ts) ∧ DctAt H k (keyK ks) ∧ Tabs ts m 4 ∧ Keys H ts ks ∧ (n, w) ∈ ts ∧ cs.length ≤ 100 ∧
  ∀ H', Same H H' → Q (.bl (isWh w ks n cs cap)) H'
section
variable {P : Program} {w : World} {K : PySem.W.Frag} {mg : Str → Option Value} {base : Heap} {a : Nat → Addr} {d : Nat → FuncData}
theorem ok_is_wh (T : Txt K mg a d) : FnOk P w K mg base CX0 1 (a 37) (d 37) ["service", "tables", "keys"] spIsWh := by
  refine T.F37.ok sc__is_whole_service (fun vs H Q E h => ?_) (fun cdv A outer s H vs Q E hr h => ?_)
  · obtain ⟨v, t, k, ga, n, cs, cap, w, ts, ks, m, rfl, _⟩ := h
    rfl
  · obtain ⟨v, t, k, ga, n, cs, cap, w, ts, ks, m, rfl, hv, ht, hk, hT, hK, hm, hl, q⟩ := h
    have fin : ∀ b : Bool, b = isWh w ks n cs cap → ∀ H', Same H H' → Q (.bl b) H' := fun b e H' s => by
      rw [e]
      exact q H' s
    have g := ht.get (tab_nd hT) (Sum.inr n)
    rw [tab_val hT hm] at g
    have gk := fun (H' : Hp) (s : Same H H') => (hk.same s).get (key_nd hT hK) (Sum.inr n)
    rw [keyAt_val] at gk
    refine ⟨_, (pss_cons (ps_asg (pv 0) (pg_tup rfl (pgs_cons (pg_name (i := 3) sc__is_whole_service.nd rfl (.inl rfl)) (pgs_cons (pg_name (i := 4) sc__is_whole_service.nd rfl (.inr rfl)) (pgs_cons (pg_name (i := 5) sc__is_whole_service.nd rfl (.inl rfl)) pgs_nil)))))
  (pss_cons (ps_if (PW.pt (pw_or (pt_cmpR op_isN (pv 5) pe_non (nomark _)) (pw_or1 (pt_cmpR op_eq (pe_callB (id := "len")  call_len_seq (by rfl) T.z_len (by decide +kernel) (pa_cons (pv 4) pa_nil)) (pe_dget (hu_of hr) (pv 1) (pv 3) (fun _ _ => rfl)) (nomark _)))))
    (pss_one (ps_ret pe_bl))
    pss_nil)
  (pss_one (ps_ret (pe_and (pe_cmp (pc_din (hu_of hr) (pv 3) (pv 2)) rfl) (pe_one (pe_callB (id := "all")  (cr_all rfl) (by rfl) T.z_all (by decide +kernel) (pa_cons (pe_lc (own := [("column", 6)]) rfl sc__is_whole_service.nd (pi_tup (pe_dget (hu_of hr) (pv 2) (pv 3) (fun _ _ => rfl))) (blkOk_by (N := ["service", "tables", "keys", "table", "given", "cap", "column"]) (sc := defScope s__is_whole_service) (by decide +kernel)) (fun _ _ _ _ _ => pg_name (i := 6) sc__is_whole_service.nd rfl (.inl rfl)) (fun _ _ _ _ _ => pts_nil) (fun _ _ _ _ _ => (pe_cmpR (r := rIn K false) op_in_seq (pv 6) (pv 4) (by rfl)))) pa_nil)))))))), ?_⟩
    refine ⟨_, rfl, v, _, rfl, .of hv.tup, rfl, _, _, rfl, _, _, rfl, _, _, rfl, rfl, ?_⟩
    refine ⟨_, rfl, rfl, _, rfl, ?_⟩
    rw [capV_none]
    cases e1 : cap.isNone with
    | true => exact fin true (by unfold isWh; rw [e1]; rfl) H (fun _ _ e => e)
    | false =>
      refine ⟨_, rfl, _, _, rfl, .inr (.of hv.cols), _, rfl, _, rfl, t, _, rfl, g, rfl, _, rfl, ?_⟩
      rw [List.length_map]
      refine ite_eqI (fun e2 => ?_) (fun e2 => ?_)
      · exact fin true (by unfold isWh; rw [e1, decide_eq_true e2]; rfl) H (fun _ _ e => e)
      · refine ⟨_, rfl, _, rfl, k, _, rfl, gk H (Same.refl H), _, rfl, ?_⟩
        cases e3 : keyAt ks n with
        | none => exact fin false (by unfold isWh; rw [e1, decide_eq_false e2, e3]; rfl) H (fun _ _ e => e)
        | some b =>
          rw [e3] at gk
          obtain ⟨bm, bn⟩ := keyAt_mem e3
          have hb := hK.at_ b bm
          obtain ⟨w', hw', hcols', hl1, hl2⟩ := hK.ok b bm
          have hw2 := (hT.wd _ hw').2
          refine ⟨_, rfl, _, rfl, k, _, rfl, gk H (Same.refl H), b.2.1, rfl, ⟨_, .of hb⟩, fun D hD => ?_⟩
          refine lc_tup (K := K) (a := b.2.1) (xs := b.2.2.map V.int) (fun i H' => H' D = some (.lst (((b.2.2.take i).map fun c => decide (c ∈ cs)).map V.bl)) ∧ Same H H') ⟨upd_same, same_upd hD⟩ (fun i H' _ hp => .of (hp.2 _ _ hb)) (fun i x H' hx hp => ?_) (fun H' hp => ?_)
          · obtain ⟨h1, h2⟩ := hp
            obtain ⟨c, hcx, rfl⟩ := map_at hx
            have hi : i < b.2.2.length := (List.getElem?_eq_some_iff.mp hcx).1
            refine ⟨rfl, ?_⟩
            refine ⟨_, rfl, _, rfl, ga, _, rfl, .inr (.of (h2 _ _ hv.cols)), rfl, flat_ints _, _, h1, ?_, ?_, ?_⟩
            · rw [List.length_map, List.length_map, List.length_take]
              exact Nat.lt_of_le_of_lt (by omega : _ ≤ 100) (by decide)
            · rw [map_take hcx, List.map_append]
              refine Eq.trans upd_same ?_
              show some (HO.lst (_ ++ [V.bl (inV (.int c) (cs.map V.int))])) = _
              rw [inV_ints]
              rfl
            · intro x o ex
              rw [upd_ne (ne_of_none ex hD)]
              exact h2 x o ex
          · obtain ⟨h1, h2⟩ := hp
            rw [List.length_map, List.take_length] at h1
            refine ⟨D, _, rfl, .of h1, ?_⟩
            refine fin _ ?_ _ h2
            unfold isWh
            rw [e1, decide_eq_false e2, e3, List.all_map]
            rfl
end
theorem perm_map_ex {α β : Type} {f : α → β} {ys zs : List β} (h : ys.Perm zs) : ∀ xs : List α, zs = xs.map f → ∃ L : List α, L.Perm xs ∧ L.map f = ys := by
  induction h with
  | nil =>
    intro xs e
    cases xs with
    | nil => exact ⟨[], .refl _, rfl⟩
    | cons x xs => cases e
  | cons y p ih =>
    intro xs e
    cases xs with
    | nil => cases e
    | cons x xs =>
      rw [List.map_cons] at e
      injection e with e1 e2
      obtain ⟨L, h1, h2⟩ := ih xs e2
      exact ⟨x :: L, h1.cons x, by rw [List.map_cons, h2, e1]⟩
  | swap y z l =>
    intro xs e
    cases xs with
    | nil => cases e
    | cons x xs =>
      cases xs with
      | nil => cases e
      | cons x' xs =>
        rw [List.map_cons, List.map_cons] at e
        injection e with e1 e2
        injection e2 with e2 e3
        exact ⟨x' :: x :: xs, .swap _ _ _, by rw [List.map_cons, List.map_cons, e1, e2, e3]⟩
  | trans p q ih1 ih2 =>
    intro xs e
    obtain ⟨L, h1, h2⟩ := ih2 xs e
    obtain ⟨M, h3, h4⟩ := ih1 L h2.symm
    exact ⟨M, h3.trans h1, h4⟩
/-- what sorted(d) is asked and gives -/
theorem DctAt.names {α : Type} {H : Hp} {t : Addr} {xs : List α} {g : α → Key × V} {f : α → Str} (h : DctAt H t (xs.map g)) (hg : ∀ x, (g x).1 = Sum.inr (f x)) (hl : xs.length < 64) :
    ∃ ks zs, H t = some (.dK ks) ∧ ks.length = xs.length ∧ ks.map (·.1) = zs.map Sum.inr ∧ zs.length < 64 ∧ zs.Perm (xs.map f) ∧ ∀ ys : List Str, ys.Perm zs → ∃ L : List α, L.Perm xs ∧ L.map f = ys := by
  obtain ⟨ks, e, p⟩ := h
  obtain ⟨L, h1, h2⟩ := perm_map_ex p xs rfl
  refine ⟨ks, L.map f, e, ?_, ?_, ?_, h1.map f, fun ys hy => ?_⟩
  · rw [← h2, List.length_map, h1.length_eq]
  · rw [← h2, List.map_map, List.map_map]
    exact List.map_congr_left fun x _ => hg x
  · rw [List.length_map, h1.length_eq]
    exact hl
  · obtain ⟨M, h3, h4⟩ := perm_map_ex hy L rfl
    exact ⟨M, h3.trans h1, h4⟩
theorem key_val {H : Hp} {ts : List (Str × Int)} {ks : List KeyE} {m : Nat} {wm : Int} (hT : Tabs ts m wm) (h : Keys H ts ks) {b : KeyE} (hb : b ∈ ks) : valV (keyK ks) (Sum.inr b.1) = some (.ref b.2.1) :=
  val_nodup (kvs := keyK ks) (key_nd hT h) (Sum.inr b.1, V.ref b.2.1) (List.mem_map.mpr ⟨b, hb, rfl⟩)
theorem sv_val {H : Hp} {ts : List (Str × Int)} {ks : List KeyE} {ss : List SvE} {n : Nat} (h : Svcs H ts ks ss n) {b : SvE} (hb : b ∈ ss) : valV (svK ss) (Sum.inr b.name) = some (.ref b.at_) :=
  val_nodup (kvs := svK ss) (sv_nd h) (Sum.inr b.name, V.ref b.at_) (List.mem_map.mpr ⟨b, hb, rfl⟩)
theorem fillE_perm {ts : List (Str × Int)} {ks : List KeyE} {a b : List SvE} (p : a.Perm b) : (fillE ts ks a).Perm (fillE ts ks b) := (p.filter _).map _
theorem fillE_take {ts : List (Str × Int)} {ks : List KeyE} (L : List SvE) (i : Nat) : (fillE ts ks (L.take i)).Sublist (fillE ts ks L) := ((List.take_sublist i L).filter _).map _
theorem rising_pw : ∀ (l : List Str) (p : Str), PyProof.Rows.risingS p l = true → (p :: l).Pairwise fun a b => a.cps.toList ≤ b.cps.toList
  | [], p, _ => List.pairwise_singleton _ _
  | x :: r, p, h => by
    have h' : (!PySem.Spec.ltCps x.cps.toList p.cps.toList && PyProof.Rows.risingS x r) = true := h
    rw [Bool.and_eq_true] at h'
    obtain ⟨h1, h2⟩ := h'
    have ih := rising_pw r x h2
    have hpx : p.cps.toList ≤ x.cps.toList := by
      rw [PyProof.Rows.ltCps_eq] at h1
      have h3 : ¬ x.cps.toList < p.cps.toList := by simpa using h1
      exact h3
    refine List.pairwise_cons.mpr ⟨fun y hy => ?_, ih⟩
    rcases List.mem_cons.mp hy with rfl | hy
    · exact hpx
    · exact List.le_trans hpx ((List.pairwise_cons.mp ih).1 y hy)
theorem sorted_pw {l : List Str} (h : PyProof.Rows.sortedS l = true) : l.Pairwise fun a b => a.cps.toList ≤ b.cps.toList := by
  cases l with
  | nil => exact .nil
  | cons x r => exact rising_pw r x h
theorem sorted_uniq {a b : List Str} (p : a.Perm b) (ha : PyProof.Rows.sortedS a = true) (hb : PyProof.Rows.sortedS b = true) : a = b := by
  refine List.Perm.eq_of_pairwise (le := fun a b : Str => a.cps.toList ≤ b.cps.toList) (fun x y _ _ h1 h2 => ?_) (sorted_pw ha) (sorted_pw hb) p
  have e := List.le_antisymm h1 h2
  cases x
  cases y
  congr
  exact Array.toList_inj.mp e
theorem dc_list {K : PySem.W.Frag} {a : Addr} {xs : List V} {g : TG} {tt : TT} {tk tv : TE} {vs : List Nat} {σ : L2.St} {H1 : Hp} {D : Addr} {Qd : Hp → Prop} (Pv : Nat → Hp → Prop) (h0 : Pv 0 (upd H1 D (.dK []))) (hl : ∀ i H, i ≤ xs.length → Pv i H → SqL K H a xs)
    (hs : ∀ i x H, xs[i]? = some x → Pv i H → g x (wipe σ vs) H fun σ2 H2 => wipe σ2 vs = wipe σ vs ∧ tt σ2 H2 fun b H3 =>
      if b = true then tk σ2 H3 fun y H4 => tv σ2 H4 fun z H5 => ∃ kvs k, y = kV k ∧ H5 D = some (.dK kvs) ∧ kvs.length < sizeLine ∧ Pv (i + 1) (upd H5 D (.dK (putK kvs k z))) else Pv (i + 1) H3) (hd : ∀ H, Pv xs.length H → Qd H) :
    ∃ W : Nat → Nat → Hp → Prop, (∃ m, W 0 m (upd H1 D (.dK []))) ∧ ∀ i m H, W i m H →
      ((Itl K a).stop i H ∧ Qd H) ∨ ((Itl K a).go i H ∧ ∃ Nx : Hp → Prop, (∀ H', Nx H' → ∃ m', m' < m ∧ W (i + 1) m' H') ∧ ∀ x H', (Itl K a).yld i H x H' → g x (wipe σ vs) H' fun σ2 H2 => wipe σ2 vs = wipe σ vs ∧ tt σ2 H2 fun b H3 =>
        if b = true then tk σ2 H3 fun y H4 => tv σ2 H4 fun z H5 => ∃ kvs k, y = kV k ∧ H5 D = some (.dK kvs) ∧ kvs.length < sizeLine ∧ Nx (upd H5 D (.dK (putK kvs k z))) else Nx H3) := by
  refine ⟨fun i m H => m = xs.length - i ∧ i ≤ xs.length ∧ Pv i H, ⟨xs.length, by simp, Nat.zero_le _, h0⟩, ?_⟩
  rintro i m H ⟨rfl, hi, p⟩
  have q := hl i H hi p
  rcases Nat.lt_or_ge i xs.length with lt | ge
  · refine .inr ⟨⟨xs, xs[i], q, by simp [lt]⟩, Pv (i + 1), fun H' p' => ⟨xs.length - (i + 1), by omega, rfl, lt, p'⟩, fun x H' y => ?_⟩
    obtain ⟨e, y⟩ := y
    subst e
    exact hs i x _ (y xs q) p
  · obtain rfl : i = xs.length := by omega
    exact .inl ⟨⟨xs, q, Nat.le_refl _⟩, hd H p⟩
def spCopied : Sp := fun vs H Q _ => ∃ (t : Addr) (kvs : List (Key × V)) (names : List Str), vs = [.ref t] ∧ DctAt H t kvs ∧ kvs.map (·.1) = names.map Sum.inr ∧ names.Nodup ∧ names.length < 64 ∧ ∀ D H', H D = none → DctAt H' D kvs → Same H H' → Q (.ref D) H'
section
variable {P : Program} {w : World} {K : PySem.W.Frag} {mg : Str → Option Value} {base : Heap} {a : Nat → Addr} {d : Nat → FuncData}
theorem ok_copied (T : Txt K mg a d) : FnOk P w K mg base CX0 1 (a 42) (d 42) ["things"] spCopied := by
  refine T.F42.ok sc__copied (fun vs H Q E h => ?_) (fun cdv A outer s H vs Q E hr h => ?_)
  · obtain ⟨t, kvs, names, rfl, _⟩ := h
    rfl
  · obtain ⟨t, kvs, names, rfl, ht, hk, hnd, h64, q⟩ := h
    have nd : (kvs.map (·.1)).Nodup := by
      rw [hk]
      exact inr_nd hnd
    obtain ⟨kd, e, pk⟩ := id ht
    have pk' := pk.map (·.1)
    rw [hk] at pk'
    obtain ⟨zs, z1, z2⟩ := perm_map_ex pk' names rfl
    refine ⟨_, (pss_one (ps_ret (pe_dc (own := [("name", 1)]) rfl sc__copied.nd (pi_list (pe_callB (id := "sorted")  (call_sortedD rfl) (by rfl) T.z_sorted (by decide +kernel) (pa_cons (pv 0) pa_nil))) (blkOk_by (N := ["things", "name"]) (sc := defScope s__copied) (by decide +kernel)) (fun _ _ _ _ _ => pg_name (i := 1) sc__copied.nd rfl (.inl rfl)) (fun _ _ _ _ _ => pts_nil) (fun _ _ _ _ _ => (pv 1)) (fun _ _ _ _ _ => (pe_dget (hu_of hr) (pv 0) (pv 1) (fun _ _ => rfl)))))), ?_⟩
    refine ⟨_, rfl, t, kd, zs, rfl, .inl e, z2.symm, by rw [z1.length_eq]; exact h64, fun ys p yp _ hp => ⟨p, rfl, ?_⟩⟩
    have s0 := same_upd (o := .lst (ys.map V.str)) hp
    have yn : ys.Perm names := yp.trans z1
    have ynd : ys.Nodup := yn.nodup_iff.mpr hnd
    have yl : ys.length < 64 := by rw [yn.length_eq]; exact h64
    refine ⟨⟨_, .of upd_same⟩, fun D hD => ?_⟩
    have hD0 : H D = none := s0.free hD
    have npD : p ≠ D := ne_of_none upd_same hD
    have pairs : ∀ zs : List Str, zs.Perm names → (zs.map fun n => ((Sum.inr n : Key), (valV kvs (Sum.inr n)).getD .non)).Perm kvs := fun zs hz => by
      refine (hz.map _).trans (List.Perm.of_eq ?_)
      have e1 : (names.map fun n => ((Sum.inr n : Key), (valV kvs (Sum.inr n)).getD .non)) = (kvs.map (·.1)).map fun k => (k, (valV kvs k).getD .non) := by
        rw [hk, List.map_map]
        rfl
      rw [e1, List.map_map]
      refine Eq.trans (List.map_congr_left (g := id) fun x hx => ?_) (List.map_id _)
      show (x.1, (valV kvs x.1).getD .non) = x
      rw [val_nodup nd x hx]
      rfl
    refine dc_list (K := K) (a := p) (xs := ys.map V.str) (fun i H' => H' D = some (.dK ((ys.take i).map fun n => ((Sum.inr n : Key), (valV kvs (Sum.inr n)).getD .non))) ∧ Same (upd H p (.lst (ys.map V.str))) H') ⟨upd_same, same_upd hD⟩ (fun i H' _ hp => .of (hp.2 _ _ upd_same)) (fun i x H' hx hp => ?_) (fun H' hp => ?_)
    · obtain ⟨h1, h2⟩ := hp
      obtain ⟨n, hn, rfl⟩ := map_at hx
      have hmem : n ∈ names := yn.mem_iff.mp (List.mem_of_getElem? hn)
      have hv : ∃ v, valV kvs (Sum.inr n) = some v := by
        have : (Sum.inr n : Key) ∈ kvs.map (·.1) := by
          rw [hk]
          exact List.mem_map.mpr ⟨n, hmem, rfl⟩
        obtain ⟨x, hx, e⟩ := List.mem_map.mp this
        exact ⟨x.2, by rw [← e]; exact val_nodup nd x hx⟩
      obtain ⟨v, hv⟩ := hv
      refine ⟨rfl, _, rfl, _, rfl, _, rfl, t, v, rfl, (ht.same (s0.trans h2)).at_ nd hv, _, Sum.inr n, rfl, h1, ?_, ?_, ?_⟩
      · rw [List.length_map, List.length_take]
        exact small1000 (by omega)
      · rw [map_take hn, hv]
        refine Eq.trans upd_same (congrArg (fun x => some (HO.dK x)) ?_)
        rw [putK_new _ (valV_no ?_)]
        · rfl
        · rw [List.map_map]
          exact inr_no (nd_take ynd hn)
      · intro x o ex
        rw [upd_ne (ne_of_none ex hD)]
        exact h2 x o ex
    · obtain ⟨h1, h2⟩ := hp
      rw [List.length_map, List.take_length] at h1
      exact q D H' hD0 ⟨_, h1, pairs ys yn⟩ (s0.trans h2)
end
def fldsS (d1 d2 d3 : Addr) : List (Str × V) := putF "_services" (.ref d3) (putF "_keys" (.ref d2) (putF "_tables" (.ref d1) []))
theorem flds_t (d1 d2 d3 : Addr) : (fldsS d1 d2 d3).lookup ("_tables" : Str) = some (V.ref d1) := by
  unfold fldsS
  rw [lookup_putF, if_neg (by decide +kernel), lookup_putF, if_neg (by decide +kernel), lookup_putF, if_pos rfl]
theorem flds_k (d1 d2 d3 : Addr) : (fldsS d1 d2 d3).lookup ("_keys" : Str) = some (V.ref d2) := by
  unfold fldsS
  rw [lookup_putF, if_neg (by decide +kernel), lookup_putF, if_pos rfl]
theorem flds_s (d1 d2 d3 : Addr) : (fldsS d1 d2 d3).lookup ("_services" : Str) = some (V.ref d3) := by
  unfold fldsS
  rw [lookup_putF, if_pos rfl]
theorem flds_no (d1 d2 d3 : Addr) {m : Str} (h1 : ¬ m = "_services") (h2 : ¬ m = "_keys") (h3 : ¬ m = "_tables") : (fldsS d1 d2 d3).lookup m = none := by
  unfold fldsS
  rw [lookup_putF, if_neg h1, lookup_putF, if_neg h2, lookup_putF, if_neg h3]
  rfl
theorem DctAt.but {H H' : Hp} {t p : Addr} {kvs : List (Key × V)} {C dx : Addr} {fs : List (Str × V)} (h : DctAt H t kvs) (hp : H p = some (.ins C dx fs)) (s : ∀ b o, b ≠ p → H b = some o → H' b = some o) : DctAt H' t kvs := by
  obtain ⟨ks, e, q⟩ := h
  exact ⟨ks, s _ _ (ne_of e hp (by intro z; cases z)) e, q⟩
/-! ### dicts with the same pairs in any order -/
section
variable {P : Program} {w : World} {K : PySem.W.Frag} {mg : Str → Option Value} {base : Heap} {a : Nat → Addr} {d : Nat → FuncData}
/-! ### the small ones -/
def spCount : Sp := fun vs H Q _ => ∃ (i m : Int), vs = [.int i, .int m] ∧ ∀ H', Same H H' → Q (.bl (decide (1 ≤ i ∧ i ≤ m))) H'
theorem ok_count (T : Txt K mg a d) : FnOk P w K mg base CX0 2 (a 32) (d 32) ["thing", "most"] spCount := by
  have G12 : FnOk P w K mg base CX0 1 (a 12) (d 12) ["thing"] (spB plainV) := ok_plain T
  refine T.F32.ok sc__is_count (fun vs H Q E h => ?_) (fun cdv A outer s H vs Q E hr h => ?_)
  · obtain ⟨i, m, rfl, _⟩ := h
    rfl
  · obtain ⟨i, m, rfl, q⟩ := h
    refine ⟨_, (pss_one (ps_ret (pe_and (pe_call G12 (hr.mono (by decide)) (by rfl) T.g12 T.F12.kp T.b12 .nil pass0 (pa_cons (pv 0) pa_nil)) (pe_one (pe_chain op_le op_le pe_int (pv 0) (pv 1)))))), ?_⟩
    refine ⟨_, rfl, _, rfl, .int i, fun H1 s1 => ⟨_, rfl, ?_⟩⟩
    refine ⟨_, rfl, _, _, rfl, rfl, _, rfl, ite_d (fun h1 => ?_) (fun h1 => ?_)⟩
    · refine ⟨_, rfl, _, _, rfl, rfl, ?_⟩
      have := q H1 s1
      show Q (.bl (decide (i ≤ m))) H1
      by_cases h2 : i ≤ m
      · rw [decide_eq_true (show 1 ≤ i ∧ i ≤ m from ⟨h1, h2⟩)] at this
        rw [decide_eq_true h2]
        exact this
      · rw [decide_eq_false (fun z : 1 ≤ i ∧ i ≤ m => h2 z.2)] at this
        rw [decide_eq_false h2]
        exact this
    · have := q H1 s1
      rw [decide_eq_false (fun z : 1 ≤ i ∧ i ≤ m => h1 z.1)] at this
      exact this
def spNameIn : Sp := fun vs H Q _ => ∃ (n : Str) (t : Addr) (kvs : List (Key × V)), vs = [.str n, .ref t] ∧ DctAt H t kvs ∧ (kvs.map (·.1)).Nodup ∧ Q (.bl (valV kvs (Sum.inr n)).isSome) H
theorem ok_name_in (T : Txt K mg a d) : FnOk P w K mg base CX0 1 (a 33) (d 33) ["thing", "names"] spNameIn := by
  refine T.F33.ok sc__is_name_in (fun vs H Q E h => ?_) (fun cdv A outer s H vs Q E hr h => ?_)
  · obtain ⟨n, t, kvs, rfl, _⟩ := h
    rfl
  · obtain ⟨n, t, kvs, rfl, ht, nd, q⟩ := h
    refine ⟨_, (pss_one (ps_ret (pe_and (pe_callB (id := "isinstance")  call_isi (by rfl) T.z_isinstance (by decide +kernel) (pa_cons (pv 0) (pa_cons (pe_bltn (v := .ty "str") (by rfl) T.z_str (by decide +kernel) rfl) pa_nil))) (pe_one (pe_cmp (pc_din (hu_of hr) (pv 0) (pv 1)) rfl))))), ?_⟩
    refine ⟨_, rfl, _, _, _, _, _, rfl, .ty _, .base (.str n), kit_ty (show kitB "str" "str" = some true by decide +kernel), _, rfl, ?_⟩
    exact ⟨_, rfl, _, rfl, t, _, rfl, ht.get nd (Sum.inr n), q⟩
def spAreCols : Sp := fun vs H Q _ => ∃ (c : Addr) (cs : List Int) (w : Int), vs = [.ref c, .int w] ∧ H c = some (.tup (cs.map V.int)) ∧ Cols cs w ∧ cs.length ≤ 100 ∧ ∀ H', Same H H' → Q (.bl true) H'
theorem ok_are_columns (T : Txt K mg a d) : FnOk P w K mg base CX0 2 (a 34) (d 34) ["thing", "width"] spAreCols := by
  have G12 : FnOk P w K mg base CX0 1 (a 12) (d 12) ["thing"] (spB plainV) := ok_plain T
  refine T.F34.ok sc__are_columns (fun vs H Q E h => ?_) (fun cdv A outer s H vs Q E hr h => ?_)
  · obtain ⟨c, cs, w, rfl, _⟩ := h
    rfl
  · obtain ⟨c, cs, w, rfl, hc, hcs, hl, q⟩ := h
    refine ⟨_, (pss_cons (ps_if (pt_not (pt_val (pe_callB (id := "isinstance")  call_isi (by rfl) T.z_isinstance (by decide +kernel) (pa_cons (pv 0) (pa_cons (pe_bltn (v := .ty "tuple") (by rfl) T.z_tuple (by decide +kernel) rfl) pa_nil)))))
    (pss_one (ps_ret pe_bl))
    pss_nil)
  (pss_cons (ps_set (i := 2) sc__are_columns.nd rfl (.inl rfl) pe_int)
  (pss_cons (ps_for PassesOwn.never rfl (pi_tup (pv 0)) (pg_name (i := 3) sc__are_columns.nd rfl (.inl rfl))
    (pss_cons (ps_if (PW.pt (pw_or (pt_not (pt_val (pe_call G12 (hr.mono (by decide)) (by rfl) T.g12 T.F12.kp T.b12 .nil pass0 (pa_cons (pv 3) pa_nil)))) (pw_or1 (pt_not (pt_chain op_le op_lt (pv 2) (pv 3) (pv 1))))))
        (pss_one (ps_ret pe_bl))
        pss_nil)
      (pss_one (ps_set (i := 2) sc__are_columns.nd rfl (.inl rfl) (pe_op op_add (pv 3) pe_int)))))
  (pss_one (ps_ret pe_bl))))), ?_⟩
    refine ⟨_, rfl, _, _, _, _, _, rfl, .ty _, .base (.tup hc), kit_ty (show kitB "tuple" "tuple" = some true by decide +kernel), _, rfl, ?_⟩
    refine ⟨_, rfl, c, rfl, ⟨_, .of hc⟩, for_tup (K := K) (a := c) (xs := cs.map V.int) (fun i σ H' => ∃ (l : Int) (y3 : Option V), σ = [some (.ref c), some (.int w), some (.int l), y3] ∧ Same H H' ∧ (∀ j x, i ≤ j → cs[j]? = some x → l ≤ x)) ⟨0, none, rfl, Same.refl H, fun j x _ e => (hcs.2 x (List.mem_of_getElem? e)).1⟩ (fun i σ H' _ hp => ?_) (fun i y σ H' hy hp => ?_) (fun σ H' hp => ?_)⟩
    · obtain ⟨l, y3, rfl, s1, _⟩ := hp
      exact .of (s1 _ _ hc)
    · obtain ⟨l, y3, rfl, s1, hlow⟩ := hp
      obtain ⟨x, hx, rfl⟩ := map_at hy
      have hb := hcs.2 x (List.mem_of_getElem? hx)
      have h1 := hlow i x (Nat.le_refl _) hx
      refine ⟨_, rfl, _, rfl, .int x, fun H1 s2 => ⟨_, rfl, ?_⟩⟩
      refine ⟨_, rfl, _, rfl, _, _, rfl, rfl, _, rfl, ite_d (fun _ => ?_) (fun z => absurd h1 z)⟩
      refine ⟨_, rfl, _, _, rfl, rfl, _, rfl, ?_⟩
      rw [decide_eq_true hb.2]
      refine ⟨_, rfl, _, _, rfl, rfl, _, _, rfl, s1.trans s2, fun j z hj e => ?_⟩
      have hij : i < j := hj
      obtain ⟨hi', ei⟩ := List.getElem?_eq_some_iff.mp hx
      obtain ⟨hj', ej⟩ := List.getElem?_eq_some_iff.mp e
      have := List.pairwise_iff_getElem.mp hcs.1 i j hi' hj' hij
      rw [ei, ej] at this
      omega
    · obtain ⟨l, y3, rfl, s1, _⟩ := hp
      exact q H' s1
/-! ### keys and services that are right -/
def spIsKey : Sp := fun vs H Q _ => ∃ (c : Addr) (cs : List Int) (w : Int), vs = [.ref c, .int w] ∧ H c = some (.tup (cs.map V.int)) ∧ Cols cs w ∧ cs.length ≤ 100 ∧ 1 ≤ cs.length ∧ (cs.length : Int) < w ∧ ∀ H', Same H H' → Q (.bl true) H'
theorem ok_is_key (T : Txt K mg a d) : FnOk P w K mg base CX0 3 (a 35) (d 35) ["thing", "width"] spIsKey := by
  have G34 : FnOk P w K mg base CX0 2 (a 34) (d 34) ["thing", "width"] spAreCols := ok_are_columns T
  refine T.F35.ok sc__is_key (fun vs H Q E h => ?_) (fun cdv A outer s H vs Q E hr h => ?_)
  · obtain ⟨c, cs, w, rfl, _⟩ := h
    rfl
  · obtain ⟨c, cs, w, rfl, hc, hcs, hl, h1, h2, q⟩ := h
    refine ⟨_, (pss_one (ps_ret (pe_and (pe_call G34 (hr.mono (by decide)) (by rfl) T.g34 T.F34.kp T.b34 .nil pass0 (pa_cons (pv 0) (pa_cons (pv 1) pa_nil))) (pe_one (pe_chain op_lt op_lt pe_int (pe_callB (id := "len")  call_len_seq (by rfl) T.z_len (by decide +kernel) (pa_cons (pv 0) pa_nil)) (pv 1)))))), ?_⟩
    refine ⟨_, rfl, _, rfl, c, cs, w, rfl, hc, hcs, hl, fun H1 s1 => ⟨_, rfl, ?_⟩⟩
    have lc : ((cs.map V.int).length : Int) = cs.length := by rw [List.length_map]
    refine ⟨_, rfl, _, _, rfl, .inr (.of (s1 _ _ hc)), _, _, rfl, rfl, _, rfl, ite_d (fun _ => ?_) (fun z => absurd (by omega) z)⟩
    refine ⟨_, rfl, _, _, rfl, rfl, ?_⟩
    show Q (.bl (decide (((cs.map V.int).length : Int) < w))) H1
    rw [lc, decide_eq_true h2]
    exact q H1 s1
def spIsSvc : Sp := fun vs H Q _ => ∃ (v t ga : Addr) (n : Str) (cs : List Int) (cap : Option Int) (w : Int) (ts : List (Str × Int)) (m : Nat), vs = [.ref v, .ref t] ∧ Told H v n ga cs cap ∧ DctAt H t (tabK ts) ∧ Tabs ts m 4 ∧ (n, w) ∈ ts ∧ Cols cs w ∧ cs.length ≤ 4 ∧ (∀ z, cap = some z → 1 ≤ z ∧ z ≤ 4) ∧ ∀ H', Same H H' → Q (.bl true) H'
theorem ok_is_service (T : Txt K mg a d) : FnOk P w K mg base CX0 3 (a 36) (d 36) ["thing", "tables"] spIsSvc := by
  have G34 : FnOk P w K mg base CX0 2 (a 34) (d 34) ["thing", "width"] spAreCols := ok_are_columns T
  have G33 : FnOk P w K mg base CX0 1 (a 33) (d 33) ["thing", "names"] spNameIn := ok_name_in T
  have G32 : FnOk P w K mg base CX0 2 (a 32) (d 32) ["thing", "most"] spCount := ok_count T
  refine T.F36.ok sc__is_service (fun vs H Q E h => ?_) (fun cdv A outer s H vs Q E hr h => ?_)
  · obtain ⟨v, t, ga, n, cs, cap, w, ts, m, rfl, _⟩ := h
    rfl
  · obtain ⟨v, t, ga, n, cs, cap, w, ts, m, rfl, hv, ht, hT, hm, hcs, hl, hcap, q⟩ := h
    obtain ⟨t9, h_MOST_CAP⟩ := T.c_MOST_CAP
    have tv := tab_val hT hm
    have g := fun (H' : Hp) (s : Same H H') => (ht.same s).get (tab_nd hT) (Sum.inr n)
    rw [tv] at g
    refine ⟨_, (pss_cons (ps_if (PW.pt (pw_or (pt_not (pt_val (pe_callB (id := "isinstance")  call_isi (by rfl) T.z_isinstance (by decide +kernel) (pa_cons (pv 0) (pa_cons (pe_bltn (v := .ty "tuple") (by rfl) T.z_tuple (by decide +kernel) rfl) pa_nil))))) (pw_or1 (pt_cmpR op_ne (pe_callB (id := "len")  call_len_seq (by rfl) T.z_len (by decide +kernel) (pa_cons (pv 0) pa_nil)) pe_int (nomark _)))))
    (pss_one (ps_ret pe_bl))
    pss_nil)
  (pss_cons (ps_asg (pv 0) (pg_tup rfl (pgs_cons (pg_name (i := 2) sc__is_service.nd rfl (.inl rfl)) (pgs_cons (pg_name (i := 3) sc__is_service.nd rfl (.inl rfl)) (pgs_cons (pg_name (i := 4) sc__is_service.nd rfl (.inl rfl)) pgs_nil)))))
  (pss_cons (ps_if (PW.pt (pw_or (pt_not (pt_val (pe_call G33 (hr.mono (by decide)) (by rfl) T.g33 T.F33.kp T.b33 .nil pass0 (pa_cons (pv 2) (pa_cons (pv 1) pa_nil))))) (pw_or1 (pt_not (pt_val (pe_call G34 (hr.mono (by decide)) (by rfl) T.g34 T.F34.kp T.b34 .nil pass0 (pa_cons (pv 3) (pa_cons (pe_dget (hu_of hr) (pv 1) (pv 2) (fun _ _ => rfl)) pa_nil))))))))
    (pss_one (ps_ret pe_bl))
    pss_nil)
  (pss_one (ps_ret (pe_or (pe_cmpR op_isN (pv 4) pe_non (nomark _)) (pe_one (pe_call G32 (hr.mono (by decide)) (by rfl) T.g32 T.F32.kp T.b32 .nil pass0 (pa_cons (pv 4) (pa_cons (pe_glob (v := .int (4)) rfl h_MOST_CAP ⟨_, rfl⟩) pa_nil)))))))))), ?_⟩
    refine ⟨_, rfl, _, _, _, _, _, rfl, .ty _, .base (.tup hv.tup), kit_ty (show kitB "tuple" "tuple" = some true by decide +kernel), _, rfl, ?_⟩
    refine ⟨_, rfl, _, _, rfl, .inr (.of hv.tup), rfl, _, rfl, ?_⟩
    refine ⟨_, rfl, v, _, rfl, .of hv.tup, rfl, _, _, rfl, _, _, rfl, _, _, rfl, rfl, ?_⟩
    refine ⟨_, rfl, _, rfl, n, t, tabK ts, rfl, ht, tab_nd hT, ?_⟩
    rw [tv]
    refine ⟨_, rfl, _, rfl, _, rfl, _, rfl, t, _, rfl, g H (Same.refl H), ga, cs, w, rfl, hv.cols, hcs, by omega, fun H1 s1 => ⟨_, rfl, ?_⟩⟩
    refine ⟨_, rfl, rfl, _, rfl, ?_⟩
    rw [capV_none]
    cases e : cap.isNone with
    | true => exact q H1 s1
    | false =>
      cases cap with
      | none => cases e
      | some z =>
        have hz := hcap z rfl
        refine ⟨_, rfl, z, 4, rfl, fun H2 s2 => ?_⟩
        rw [decide_eq_true hz]
        exact q H2 (s1.trans s2)
end
/-! ### a dict whose names are sorted -/
section
variable {P : Program} {w : World} {K : PySem.W.Frag} {mg : Str → Option Value} {base : Heap} {a : Nat → Addr} {d : Nat → FuncData}
def spChkT : Sp := fun vs H Q _ => ∃ (t : Addr) (ts : List (Str × Int)) (m : Nat), vs = [.ref t] ∧ DctAt H t (tabK ts) ∧ Tabs ts m 4 ∧ 1 ≤ m ∧ m ≤ 5 ∧ ∀ H', Same H H' → Q .non H'
theorem ok_check_tables (T : Txt K mg a d) : FnOk P w K mg base CX0 3 (a 38) (d 38) ["tables"] spChkT := by
  have G13 : FnOk P w K mg base CX0 1 (a 13) (d 13) ["thing"] (spB wordV) := ok_is_word T
  have G32 : FnOk P w K mg base CX0 2 (a 32) (d 32) ["thing", "most"] spCount := ok_count T
  refine T.F38.ok sc__check_tables (fun vs H Q E h => ?_) (fun cdv A outer s H vs Q E hr h => ?_)
  · obtain ⟨t, ts, m, rfl, _⟩ := h
    rfl
  · obtain ⟨t, ts, m, rfl, ht, hT, hm1, hm2, q⟩ := h
    obtain ⟨t8, h_MOST_TABLES⟩ := T.c_MOST_TABLES
    obtain ⟨t9, h_MOST_WIDTH_schemas⟩ := T.c_MOST_WIDTH_schemas
    have hlen := hT.len
    obtain ⟨ks, zs, e, kl, ek, z64, _, hL⟩ := DctAt.names (f := (·.1)) ht (fun _ => rfl) (by omega)
    refine ⟨_, (pss_cons (ps_if (pt_not (pt_chain op_le op_le pe_int (pe_callB (id := "len")  call_lenD (by rfl) T.z_len (by decide +kernel) (pa_cons (pv 0) pa_nil)) (pe_glob (v := .int (5)) rfl h_MOST_TABLES ⟨_, rfl⟩)))
    (pss_one ps_never)
    pss_nil)
  (pss_one (ps_for PassesOwn.never rfl (pi_list (pe_callB (id := "sorted")  (call_sortedD rfl) (by rfl) T.z_sorted (by decide +kernel) (pa_cons (pv 0) pa_nil))) (pg_name (i := 1) sc__check_tables.nd rfl (.inl rfl))
    (pss_one (ps_if (PW.pt (pw_or (pt_not (pt_val (pe_call G13 (hr.mono (by decide)) (by rfl) T.g13 T.F13.kp T.b13 .nil pass0 (pa_cons (pv 1) pa_nil)))) (pw_or1 (pt_not (pt_val (pe_call G32 (hr.mono (by decide)) (by rfl) T.g32 T.F32.kp T.b32 .nil pass0 (pa_cons (pe_dget (hu_of hr) (pv 0) (pv 1) (fun _ _ => rfl)) (pa_cons (pe_glob (v := .int (4)) rfl h_MOST_WIDTH_schemas ⟨_, rfl⟩) pa_nil))))))))
        (pss_one ps_never)
        pss_nil))))), ?_⟩
    refine ⟨_, rfl, t, ks, rfl, e, _, _, rfl, rfl, _, rfl, ite_d (fun _ => ?_) (fun z => absurd (by omega) z)⟩
    refine ⟨_, _, rfl, rfl, _, rfl, ?_⟩
    show if (!decide ((ks.length : Int) ≤ 5)) = true then _ else _
    rw [decide_eq_true (by omega)]
    refine ⟨_, rfl, t, ks, zs, rfl, .inl e, ek, z64, fun ys p yp _ hp => ⟨p, rfl, ?_⟩⟩
    obtain ⟨L, hLp, rfl⟩ := hL ys yp
    have s0 := same_upd (o := .lst ((L.map (·.1)).map V.str)) hp
    refine ⟨⟨_, .of upd_same⟩, for_list (K := K) (a := p) (xs := (L.map (·.1)).map V.str) (fun i σ H' => ∃ y1 : Option V, σ = [some (.ref t), y1] ∧ Same (upd H p (.lst ((L.map (·.1)).map V.str))) H') ⟨none, rfl, Same.refl _⟩ (fun i σ H' _ hp => ?_) (fun i y σ H' hy hp => ?_) (fun σ H' hp => ?_)⟩
    · obtain ⟨y1, rfl, s1⟩ := hp
      exact .of (s1 _ _ upd_same)
    · obtain ⟨y1, rfl, s1⟩ := hp
      obtain ⟨n, hn, rfl⟩ := map_at hy
      obtain ⟨b, hb, rfl⟩ := map_at hn
      have hm : (b.1, b.2) ∈ ts := hLp.mem_iff.mp (List.mem_of_getElem? hb)
      have hw := hT.wd _ hm
      have hwd := hT.nm.wd b.1 (List.mem_map.mpr ⟨_, hm, rfl⟩)
      refine ⟨_, rfl, .str b.1, rfl, wd_thg hwd, fun H1 s2 => ⟨_, rfl, ?_⟩⟩
      show if (!wordB b.1) = true then _ else _
      rw [wd_b hwd]
      refine ⟨_, rfl, _, rfl, t, _, rfl, (ht.same ((s0.trans s1).trans s2)).at_ (tab_nd hT) (tab_val hT hm), b.2, 4, rfl, fun H2 s3 => ⟨_, rfl, ?_⟩⟩
      rw [decide_eq_true hw]
      exact ⟨_, rfl, (s1.trans s2).trans s3⟩
    · obtain ⟨y1, rfl, s1⟩ := hp
      exact q H' (s0.trans s1)
def spChkK : Sp := fun vs H Q _ => ∃ (k t : Addr) (ts : List (Str × Int)) (ks : List KeyE) (m : Nat), vs = [.ref k, .ref t] ∧ DctAt H k (keyK ks) ∧ DctAt H t (tabK ts) ∧ Tabs ts m 4 ∧ Keys H ts ks ∧ m ≤ 5 ∧ ∀ H', Same H H' → Q .non H'
theorem ok_check_keys (T : Txt K mg a d) : FnOk P w K mg base CX0 4 (a 39) (d 39) ["keys", "tables"] spChkK := by
  have G35 : FnOk P w K mg base CX0 3 (a 35) (d 35) ["thing", "width"] spIsKey := ok_is_key T
  refine T.F39.ok sc__check_keys (fun vs H Q E h => ?_) (fun cdv A outer s H vs Q E hr h => ?_)
  · obtain ⟨k, t, ts, ks, m, rfl, _⟩ := h
    rfl
  · obtain ⟨k, t, ts, ks, m, rfl, hk, ht, hT, hK, hm2, q⟩ := h
    have hlen := hT.len
    have hkl : ks.length ≤ 5 := by
      have := hK.le
      omega
    obtain ⟨kd, zs, e, kl, ek, z64, _, hL⟩ := DctAt.names (f := (·.1)) hk (fun _ => rfl) (by omega)
    refine ⟨_, (pss_one (ps_for PassesOwn.never rfl (pi_list (pe_callB (id := "sorted")  (call_sortedD rfl) (by rfl) T.z_sorted (by decide +kernel) (pa_cons (pv 0) pa_nil))) (pg_name (i := 2) sc__check_keys.nd rfl (.inl rfl))
    (pss_one (ps_if (PW.pt (pw_or (pt_cmp (pc_dnotin (hu_of hr) (pv 2) (pv 1))) (pw_or1 (pt_not (pt_val (pe_call G35 (hr.mono (by decide)) (by rfl) T.g35 T.F35.kp T.b35 .nil pass0 (pa_cons (pe_dget (hu_of hr) (pv 0) (pv 2) (fun _ _ => rfl)) (pa_cons (pe_dget (hu_of hr) (pv 1) (pv 2) (fun _ _ => rfl)) pa_nil))))))))
        (pss_one ps_never)
        pss_nil)))), ?_⟩
    refine ⟨_, rfl, k, kd, zs, rfl, .inl e, ek, z64, fun ys p yp _ hp => ⟨p, rfl, ?_⟩⟩
    obtain ⟨L, hLp, rfl⟩ := hL ys yp
    have s0 := same_upd (o := .lst ((L.map (·.1)).map V.str)) hp
    refine ⟨⟨_, .of upd_same⟩, for_list (K := K) (a := p) (xs := (L.map (·.1)).map V.str) (fun i σ H' => ∃ y1 : Option V, σ = [some (.ref k), some (.ref t), y1] ∧ Same (upd H p (.lst ((L.map (·.1)).map V.str))) H') ⟨none, rfl, Same.refl _⟩ (fun i σ H' _ hp => ?_) (fun i y σ H' hy hp => ?_) (fun σ H' hp => ?_)⟩
    · obtain ⟨y1, rfl, s1⟩ := hp
      exact .of (s1 _ _ upd_same)
    · obtain ⟨y1, rfl, s1⟩ := hp
      obtain ⟨n, hn, rfl⟩ := map_at hy
      obtain ⟨b, hb, rfl⟩ := map_at hn
      have hm : b ∈ ks := hLp.mem_iff.mp (List.mem_of_getElem? hb)
      obtain ⟨w', hw', hcols, hl1, hl2⟩ := hK.ok b hm
      have hwd := hT.wd _ hw'
      have s2 := s0.trans s1
      have gt := (ht.same s2).at_ (tab_nd hT) (tab_val hT hw')
      refine ⟨_, rfl, _, rfl, t, _, rfl, gt, _, rfl, ?_⟩
      refine ⟨_, rfl, _, rfl, k, _, rfl, (hk.same s2).at_ (key_nd hT hK) (key_val hT hK hm), _, rfl, _, rfl, t, _, rfl, gt, b.2.1, b.2.2, w', rfl, s2 _ _ (hK.at_ b hm), hcols, by omega, hl1, hl2, fun H1 s3 => ⟨_, rfl, ?_⟩⟩
      exact ⟨_, rfl, s1.trans s3⟩
    · obtain ⟨y1, rfl, s1⟩ := hp
      exact q H' (s0.trans s1)
def spChkS : Sp := fun vs H Q _ => ∃ (v t : Addr) (ts : List (Str × Int)) (ks : List KeyE) (ss : List SvE) (m n : Nat), vs = [.ref v, .ref t] ∧ DctAt H v (svK ss) ∧ DctAt H t (tabK ts) ∧ Tabs ts m 4 ∧ Svcs H ts ks ss n ∧ 1 ≤ n ∧ n ≤ 8 ∧ ∀ H', Same H H' → Q .non H'
theorem ok_check_services (T : Txt K mg a d) : FnOk P w K mg base CX0 4 (a 40) (d 40) ["services", "tables"] spChkS := by
  have G13 : FnOk P w K mg base CX0 1 (a 13) (d 13) ["thing"] (spB wordV) := ok_is_word T
  have G36 : FnOk P w K mg base CX0 3 (a 36) (d 36) ["thing", "tables"] spIsSvc := ok_is_service T
  refine T.F40.ok sc__check_services (fun vs H Q E h => ?_) (fun cdv A outer s H vs Q E hr h => ?_)
  · obtain ⟨v, t, ts, ks, ss, m, n, rfl, _⟩ := h
    rfl
  · obtain ⟨v, t, ts, ks, ss, m, n, rfl, hv, ht, hT, hS, hm1, hm2, q⟩ := h
    obtain ⟨t8, h_MOST_SERVICES⟩ := T.c_MOST_SERVICES
    have hlen : ss.length = n := by rw [← hS.nm.len, List.length_map]
    obtain ⟨kd, zs, e, kl, ek, z64, _, hL⟩ := DctAt.names (f := (·.name)) hv (fun _ => rfl) (by omega)
    refine ⟨_, (pss_cons (ps_if (pt_not (pt_chain op_le op_le pe_int (pe_callB (id := "len")  call_lenD (by rfl) T.z_len (by decide +kernel) (pa_cons (pv 0) pa_nil)) (pe_glob (v := .int (8)) rfl h_MOST_SERVICES ⟨_, rfl⟩)))
    (pss_one ps_never)
    pss_nil)
  (pss_one (ps_for PassesOwn.never rfl (pi_list (pe_callB (id := "sorted")  (call_sortedD rfl) (by rfl) T.z_sorted (by decide +kernel) (pa_cons (pv 0) pa_nil))) (pg_name (i := 2) sc__check_services.nd rfl (.inl rfl))
    (pss_one (ps_if (PW.pt (pw_or (pt_not (pt_val (pe_call G13 (hr.mono (by decide)) (by rfl) T.g13 T.F13.kp T.b13 .nil pass0 (pa_cons (pv 2) pa_nil)))) (pw_or1 (pt_not (pt_val (pe_call G36 (hr.mono (by decide)) (by rfl) T.g36 T.F36.kp T.b36 .nil pass0 (pa_cons (pe_dget (hu_of hr) (pv 0) (pv 2) (fun _ _ => rfl)) (pa_cons (pv 1) pa_nil))))))))
        (pss_one ps_never)
        pss_nil))))), ?_⟩
    refine ⟨_, rfl, v, kd, rfl, e, _, _, rfl, rfl, _, rfl, ite_d (fun _ => ?_) (fun z => absurd (by omega) z)⟩
    refine ⟨_, _, rfl, rfl, _, rfl, ?_⟩
    show if (!decide ((kd.length : Int) ≤ 8)) = true then _ else _
    rw [decide_eq_true (by omega)]
    refine ⟨_, rfl, v, kd, zs, rfl, .inl e, ek, z64, fun ys p yp _ hp => ⟨p, rfl, ?_⟩⟩
    obtain ⟨L, hLp, rfl⟩ := hL ys yp
    have s0 := same_upd (o := .lst ((L.map (·.name)).map V.str)) hp
    refine ⟨⟨_, .of upd_same⟩, for_list (K := K) (a := p) (xs := (L.map (·.name)).map V.str) (fun i σ H' => ∃ y1 : Option V, σ = [some (.ref v), some (.ref t), y1] ∧ Same (upd H p (.lst ((L.map (·.name)).map V.str))) H') ⟨none, rfl, Same.refl _⟩ (fun i σ H' _ hp => ?_) (fun i y σ H' hy hp => ?_) (fun σ H' hp => ?_)⟩
    · obtain ⟨y1, rfl, s1⟩ := hp
      exact .of (s1 _ _ upd_same)
    · obtain ⟨y1, rfl, s1⟩ := hp
      obtain ⟨nm, hn, rfl⟩ := map_at hy
      obtain ⟨b, hb, rfl⟩ := map_at hn
      have hm : b ∈ ss := hLp.mem_iff.mp (List.mem_of_getElem? hb)
      have hwd := hS.nm.wd b.name (List.mem_map.mpr ⟨_, hm, rfl⟩)
      obtain ⟨htold, ⟨w', hw', hcols, hcl⟩, hcap⟩ := hS.ok b hm
      refine ⟨_, rfl, .str b.name, rfl, wd_thg hwd, fun H1 s2 => ⟨_, rfl, ?_⟩⟩
      have s3 := (s0.trans s1).trans s2
      show if (!wordB b.name) = true then _ else _
      rw [wd_b hwd]
      refine ⟨_, rfl, _, rfl, v, _, rfl, (hv.same s3).at_ (sv_nd hS) (sv_val hS hm), _, rfl, b.at_, t, b.ga, b.tab, b.cols, b.cap, w', ts, m, rfl, htold.mono fun _ _ e => s3 _ _ e, ht.same s3, hT, hw', hcols, hcl, hcap, fun H2 s4 => ⟨_, rfl, ?_⟩⟩
      exact ⟨_, rfl, (s1.trans s2).trans s4⟩
    · obtain ⟨y1, rfl, s1⟩ := hp
      exact q H' (s0.trans s1)
end
/-! ### the order of names -/
section
variable {P : Program} {w : World} {K : PySem.W.Frag} {mg : Str → Option Value} {base : Heap} {a : Nat → Addr} {d : Nat → FuncData}
def spChkC : Sp := fun vs H Q _ => ∃ (v t k : Addr) (ts : List (Str × Int)) (ks : List KeyE) (ss : List SvE) (m n : Nat), vs = [.ref v, .ref t, .ref k] ∧ DctAt H v (svK ss) ∧ DctAt H t (tabK ts) ∧ DctAt H k (keyK ks) ∧ Tabs ts m 4 ∧ Keys H ts ks ∧ Svcs H ts ks ss n ∧ n ≤ 8 ∧ ∀ H', Same H H' → Q .non H'
theorem ok_check_capped (T : Txt K mg a d) : FnOk P w K mg base CX0 2 (a 41) (d 41) ["services", "tables", "keys"] spChkC := by
  have G37 : FnOk P w K mg base CX0 1 (a 37) (d 37) ["service", "tables", "keys"] spIsWh := ok_is_wh T
  refine T.F41.ok sc__check_capped (fun vs H Q E h => ?_) (fun cdv A outer s H vs Q E hr h => ?_)
  · obtain ⟨v, t, k, ts, ks, ss, m, n, rfl, _⟩ := h
    rfl
  · obtain ⟨v, t, k, ts, ks, ss, m, n, rfl, hv, ht, hk, hT, hK, hS, hn, q⟩ := h
    have hlen : ss.length = n := by rw [← hS.nm.len, List.length_map]
    obtain ⟨kd, zs, e, kl, ek, z64, _, hL⟩ := DctAt.names (f := (·.name)) hv (fun _ => rfl) (by omega)
    refine ⟨_, (pss_cons (ps_set (i := 3) sc__check_capped.nd rfl (.inl rfl) (pe_lst pa_nil))
  (pss_one (ps_for PassesOwn.never rfl (pi_list (pe_callB (id := "sorted")  (call_sortedD rfl) (by rfl) T.z_sorted (by decide +kernel) (pa_cons (pv 0) pa_nil))) (pg_name (i := 4) sc__check_capped.nd rfl (.inl rfl))
    (pss_cons (ps_set (i := 5) sc__check_capped.nd rfl (.inl rfl) (pe_dget (hu_of hr) (pv 0) (pv 4) (fun _ _ => rfl)))
      (pss_one (ps_if (pt_not (pt_val (pe_call G37 (hr.mono (by decide)) (by rfl) T.g37 T.F37.kp T.b37 .nil pass0 (pa_cons (pv 5) (pa_cons (pv 1) (pa_cons (pv 2) pa_nil))))))
        (pss_cons (ps_if (pt_cmpR op_in_seq (pe_ix ix_tup (pv 5) pe_int (fun _ _ => rfl)) (pv 3) (by rfl))
            (pss_one ps_never)
            pss_nil)
          (pss_one (ps_expr (pe_bm PySem.F.plainAttrs_list PySem.F.slot_list_append PySem.F.type_list_append mt_append (pv 3) (pa_cons (pe_ix ix_tup (pv 5) pe_int (fun _ _ => rfl)) pa_nil)))))
        pss_nil)))))), ?_⟩
    refine ⟨Nat.zero_le _, fun f hf => ?_⟩
    have s0 := same_upd (o := .lst []) hf
    refine ⟨_, rfl, v, kd, zs, rfl, .inl (s0 _ _ e), ek, z64, fun ys p yp _ hp => ⟨p, rfl, ?_⟩⟩
    obtain ⟨L, hLp, rfl⟩ := hL ys yp
    have s1 := same_upd (o := .lst ((L.map (·.name)).map V.str)) hp
    have nfp : f ≠ p := ne_of_none upd_same hp
    have nd : (fillE ts ks L).Nodup := (fillE_perm hLp).nodup_iff.mpr hS.one
    have lL : L.length ≤ 8 := by rw [hLp.length_eq]; omega
    refine ⟨⟨_, .of upd_same⟩, for_list (K := K) (a := p) (xs := (L.map (·.name)).map V.str) (fun i σ H' => ∃ y4 y5 : Option V, σ = [some (.ref v), some (.ref t), some (.ref k), some (.ref f), y4, y5] ∧ H' p = some (.lst ((L.map (·.name)).map V.str)) ∧ H' f = some (.lst ((fillE ts ks (L.take i)).map V.str)) ∧ Same H H')
      ⟨none, none, rfl, upd_same, s1 _ _ upd_same, s0.trans s1⟩ (fun i σ H' _ hp => ?_) (fun i y σ H' hy hp => ?_) (fun σ H' hp => ?_)⟩
    · obtain ⟨y4, y5, rfl, hp', _⟩ := hp
      exact .of hp'
    · obtain ⟨y4, y5, rfl, hp', hf', sm⟩ := hp
      obtain ⟨nm, hn', rfl⟩ := map_at hy
      obtain ⟨b, hb, rfl⟩ := map_at hn'
      have hm : b ∈ ss := hLp.mem_iff.mp (List.mem_of_getElem? hb)
      obtain ⟨htold, ⟨w', hw', hcols, hcl⟩, hcap⟩ := hS.ok b hm
      have hw2 := widthAt_mem hT.nm.nd hw'
      have tk : L.take (i + 1) = L.take i ++ [b] := by
        rw [List.take_add_one, hb]
        rfl
      have fs := fillE_snoc ts ks (L.take i) b
      rw [← tk] at fs
      have we : whE ts ks b = isWh w' ks b.tab b.cols b.cap := by
        unfold whE
        rw [hw2]
      refine ⟨_, rfl, _, rfl, v, _, rfl, (hv.same sm).at_ (sv_nd hS) (sv_val hS hm), ?_⟩
      refine ⟨_, rfl, _, rfl, _, rfl, b.at_, t, k, b.ga, b.tab, b.cols, b.cap, w', ts, ks, m, rfl, htold.mono fun _ _ e => sm _ _ e, ht.same sm, hk.same sm, hT, hK.mono fun _ _ e => sm _ _ e, hw', by omega, fun H2 s2 => ⟨_, rfl, ?_⟩⟩
      have sm2 := sm.trans s2
      cases ew : isWh w' ks b.tab b.cols b.cap with
      | true =>
        rw [we, ew, if_pos rfl, List.append_nil] at fs
        refine ⟨_, _, rfl, s2 _ _ hp', ?_, sm2⟩
        rw [fs]
        exact s2 _ _ hf'
      | false =>
        rw [we, ew, if_neg (by decide)] at fs
        have hno : b.tab ∉ fillE ts ks (L.take i) := fun hx => by
          have nd2 : (fillE ts ks (L.take (i + 1))).Nodup := nd.sublist (fillE_take L (i + 1))
          rw [fs] at nd2
          exact (List.nodup_append.mp nd2).2.2 b.tab hx b.tab (by simp) rfl
        have hat := htold.tup
        refine ⟨_, rfl, _, _, _, _, rfl, rfl, .of (sm2 _ _ hat), atI_nat (j := 0) rfl, _, rfl, f, _, rfl, .inl (.of (s2 _ _ hf')), rfl, flat_strs _, _, rfl, ?_⟩
        show if inV (.str b.tab) ((fillE ts ks (L.take i)).map V.str) = true then _ else _
        rw [inV_strs, decide_eq_false hno]
        refine ⟨_, rfl, .inl ⟨rfl, _, .of (s2 _ _ hf')⟩, _, rfl, _, _, _, _, rfl, rfl, .of (sm2 _ _ hat), atI_nat (j := 0) rfl, f, _, _, rfl, rfl, s2 _ _ hf', ?_, _, _, rfl, ?_, ?_, ?_⟩
        · rw [List.length_map]
          unfold fillE
          rw [List.length_map]
          have l1 := List.length_filter_le (fun b => !whE ts ks b) (L.take i)
          rw [List.length_take] at l1
          exact Nat.lt_of_le_of_lt (by omega : _ ≤ 8) (by decide)
        · rw [upd_ne nfp.symm]
          exact s2 _ _ hp'
        · rw [fs, List.map_append]
          exact upd_same
        · intro x o ex
          rw [upd_ne (ne_of_none ex hf)]
          exact sm2 x o ex
    · obtain ⟨y4, y5, rfl, hp', hf', sm⟩ := hp
      exact q H' sm
end
/-! ### the class -/
/-- a Schema at p -/
structure SchO (C p dx d1 d2 d3 : Addr) (H : Hp) (ts : List (Str × Int)) (ks : List KeyE) (ss : List SvE) (m n : Nat) : Prop where
  ob : H p = some (.ins C dx (fldsS d1 d2 d3))
  tb : DctAt H d1 (tabK ts)
  ky : DctAt H d2 (keyK ks)
  sv : DctAt H d3 (svK ss)
  hT : Tabs ts m 4
  hK : Keys H ts ks
  hS : Svcs H ts ks ss n
  m5 : m ≤ 5
  n8 : n ≤ 8
def SchAt (C p : Addr) (H : Hp) (ts : List (Str × Int)) (ks : List KeyE) (ss : List SvE) (m n : Nat) : Prop := ∃ dx d1 d2 d3, SchO C p dx d1 d2 d3 H ts ks ss m n
theorem SchO.same {C p dx d1 d2 d3 : Addr} {H H' : Hp} {ts : List (Str × Int)} {ks : List KeyE} {ss : List SvE} {m n : Nat} (h : SchO C p dx d1 d2 d3 H ts ks ss m n) (s : Same H H') : SchO C p dx d1 d2 d3 H' ts ks ss m n :=
  ⟨s _ _ h.ob, h.tb.same s, h.ky.same s, h.sv.same s, h.hT, h.hK.mono fun _ _ e => s _ _ e, h.hS.mono fun _ _ e => s _ _ e, h.m5, h.n8⟩
theorem SchAt.same {C p : Addr} {H H' : Hp} {ts : List (Str × Int)} {ks : List KeyE} {ss : List SvE} {m n : Nat} (h : SchAt C p H ts ks ss m n) (s : Same H H') : SchAt C p H' ts ks ss m n := by
  obtain ⟨dx, d1, d2, d3, o⟩ := h
  exact ⟨dx, d1, d2, d3, o.same s⟩
section
variable {P : Program} {w : World} {K : PySem.W.Frag} {mg : Str → Option Value} {base : Heap} {a : Nat → Addr} {d : Nat → FuncData}
def spSInit (C : Addr) : Sp := fun vs H Q _ => ∃ (p dx t k v : Addr) (ts : List (Str × Int)) (ks : List KeyE) (ss : List SvE) (m n : Nat), vs = [.ref p, .ref t, .ref k, .ref v] ∧ H p = some (.ins C dx []) ∧ DctAt H t (tabK ts) ∧ DctAt H k (keyK ks) ∧ DctAt H v (svK ss) ∧ Tabs ts m 4 ∧ Keys H ts ks ∧ Svcs H ts ks ss n ∧ 1 ≤ m ∧ m ≤ 5 ∧ 1 ≤ n ∧ n ≤ 8 ∧
  ∀ H' d1 d2 d3, SchO C p dx d1 d2 d3 H' ts ks ss m n → H d1 = none → H d2 = none → H d3 = none → (∀ b o, b ≠ p → H b = some o → H' b = some o) → Q .non H'
theorem ok_sinit (T : Txt K mg a d) : FnOk P w K mg base CX0 5 (a 5300) (d 5300) ["self", "tables", "keys", "services"] (spSInit (a 43)) := by
  have G38 : FnOk P w K mg base CX0 3 (a 38) (d 38) ["tables"] spChkT := ok_check_tables T
  have G39 : FnOk P w K mg base CX0 4 (a 39) (d 39) ["keys", "tables"] spChkK := ok_check_keys T
  have G40 : FnOk P w K mg base CX0 4 (a 40) (d 40) ["services", "tables"] spChkS := ok_check_services T
  have G41 : FnOk P w K mg base CX0 2 (a 41) (d 41) ["services", "tables", "keys"] spChkC := ok_check_capped T
  have G42 : FnOk P w K mg base CX0 1 (a 42) (d 42) ["things"] spCopied := ok_copied T
  refine T.F5300.ok sc_Schema___init__ (fun vs H Q E h => ?_) (fun cdv A outer s H vs Q E hr h => ?_)
  · obtain ⟨p, dx, t, k, v, ts, ks, ss, m, n, rfl, _⟩ := h
    rfl
  · obtain ⟨p, dx, t, k, v, ts, ks, ss, m, n, rfl, hp, ht, hk, hv, hT, hK, hS, hm1, hm2, hn1, hn2, q⟩ := h
    have lt : ts.length = m := hT.len
    have lk : ks.length ≤ 5 := by
      have := hK.le
      omega
    have ls : ss.length = n := by rw [← hS.nm.len, List.length_map]
    refine ⟨_, (pss_cons (ps_expr (pe_call G38 (hr.mono (by decide)) (by rfl) T.g38 T.F38.kp T.b38 .nil pass0 (pa_cons (pv 1) pa_nil)))
  (pss_cons (ps_expr (pe_call G39 (hr.mono (by decide)) (by rfl) T.g39 T.F39.kp T.b39 .nil pass0 (pa_cons (pv 2) (pa_cons (pv 1) pa_nil))))
  (pss_cons (ps_expr (pe_call G40 (hr.mono (by decide)) (by rfl) T.g40 T.F40.kp T.b40 .nil pass0 (pa_cons (pv 3) (pa_cons (pv 1) pa_nil))))
  (pss_cons (ps_expr (pe_call G41 (hr.mono (by decide)) (by rfl) T.g41 T.F41.kp T.b41 .nil pass0 (pa_cons (pv 3) (pa_cons (pv 1) (pa_cons (pv 2) pa_nil)))))
  (pss_cons (ps_fld (pv 0) (pe_call G42 (hr.mono (by decide)) (by rfl) T.g42 T.F42.kp T.b42 .nil pass0 (pa_cons (pv 1) pa_nil)) rfl)
  (pss_cons (ps_fld (pv 0) (pe_call G42 (hr.mono (by decide)) (by rfl) T.g42 T.F42.kp T.b42 .nil pass0 (pa_cons (pv 2) pa_nil)) rfl)
  (pss_one (ps_fld (pv 0) (pe_call G42 (hr.mono (by decide)) (by rfl) T.g42 T.F42.kp T.b42 .nil pass0 (pa_cons (pv 3) pa_nil)) rfl)))))))), ?_⟩
    refine ⟨_, rfl, t, ts, m, rfl, ht, hT, hm1, hm2, fun H1 s1 => ?_⟩
    refine ⟨_, rfl, _, rfl, k, t, ts, ks, m, rfl, hk.same s1, ht.same s1, hT, hK.mono fun _ _ e => s1 _ _ e, hm2, fun H2 s2 => ?_⟩
    have s12 := s1.trans s2
    refine ⟨_, rfl, _, rfl, v, t, ts, ks, ss, m, n, rfl, hv.same s12, ht.same s12, hT, hS.mono fun _ _ e => s12 _ _ e, hn1, hn2, fun H3 s3 => ?_⟩
    have s13 := s12.trans s3
    refine ⟨_, rfl, _, rfl, _, rfl, v, t, k, ts, ks, ss, m, n, rfl, hv.same s13, ht.same s13, hk.same s13, hT, hK.mono fun _ _ e => s13 _ _ e, hS.mono fun _ _ e => s13 _ _ e, hn2, fun H4 s4 => ?_⟩
    have s14 := s13.trans s4
    -- the three copies
    refine ⟨_, rfl, t, tabK ts, ts.map (·.1), rfl, ht.same s14, keys_tab ts, hT.nm.nd, by rw [List.length_map]; omega, fun d1 H5 f1 D1 s5 => ?_⟩
    have hp5 := (s14.trans s5) _ _ hp
    refine ⟨_, rfl, p, _, dx, _, rfl, hp5, T.cl_43, T.no_43__tables, by show 0 < 1000; decide, ?_⟩
    generalize hH6 : upd H5 p _ = H6
    have hp6 : H6 p = some (.ins (a 43) dx (putF "_tables" (.ref d1) [])) := by rw [← hH6]; exact upd_same
    have o6 : ∀ b o, b ≠ p → H5 b = some o → H6 b = some o := fun b o n e => by rw [← hH6, upd_ne n]; exact e
    have o06 : ∀ b o, b ≠ p → H b = some o → H6 b = some o := fun b o n e => o6 b o n ((s14.trans s5) _ _ e)
    have kn : ((keyK ks).map (·.1)) = (ks.map (·.1)).map Sum.inr := keys_key ks
    refine ⟨_, rfl, k, keyK ks, ks.map (·.1), rfl, hk.but hp o06, kn, hK.nd, by rw [List.length_map]; omega, fun d2 H7 f2 D2 s7 => ?_⟩
    have hp7 := s7 _ _ hp6
    refine ⟨_, rfl, p, _, dx, _, rfl, hp7, T.cl_43, T.no_43__keys, by show 1 < 1000; decide, ?_⟩
    generalize hH8 : upd H7 p _ = H8
    have hp8 : H8 p = some (.ins (a 43) dx (putF "_keys" (.ref d2) (putF "_tables" (.ref d1) []))) := by rw [← hH8]; exact upd_same
    have o8 : ∀ b o, b ≠ p → H7 b = some o → H8 b = some o := fun b o n e => by rw [← hH8, upd_ne n]; exact e
    have o68 : ∀ b o, b ≠ p → H6 b = some o → H8 b = some o := fun b o n e => o8 b o n (s7 _ _ e)
    have o08 : ∀ b o, b ≠ p → H b = some o → H8 b = some o := fun b o n e => o68 b o n (o06 b o n e)
    refine ⟨_, rfl, v, svK ss, ss.map (·.name), rfl, hv.but hp o08, keys_sv ss, hS.nm.nd, by rw [List.length_map]; omega, fun d3 H9 f3 D3 s9 => ?_⟩
    have hp9 := s9 _ _ hp8
    have l2 : ∀ d1 d2 : Addr, (putF "_keys" (.ref d2) (putF "_tables" (.ref d1) ([] : List (Str × V)))).length < 1000 := fun d1 d2 => by
      have e : putF "_keys" (.ref d2) (putF "_tables" (.ref d1) ([] : List (Str × V))) = [(("_tables" : Str), V.ref d1), (("_keys" : Str), V.ref d2)] := by
        show (if ("_tables" : Str) = "_keys" then _ else (("_tables" : Str), V.ref d1) :: putF "_keys" (.ref d2) []) = _
        rw [if_neg (by decide +kernel)]
        rfl
      rw [e]
      show 2 < 1000
      decide
    refine ⟨_, rfl, p, _, dx, _, rfl, hp9, T.cl_43, T.no_43__services, l2 _ _, ?_⟩
    generalize hH : upd H9 p _ = Hz
    have hpz : Hz p = some (.ins (a 43) dx (fldsS d1 d2 d3)) := by rw [← hH]; exact upd_same
    have oz : ∀ b o, b ≠ p → H9 b = some o → Hz b = some o := fun b o n e => by rw [← hH, upd_ne n]; exact e
    have o0z : ∀ b o, b ≠ p → H b = some o → Hz b = some o := fun b o n e => oz b o n (s9 _ _ (o08 b o n e))
    have tz : ∀ b xs, H b = some (.tup xs) → Hz b = some (.tup xs) := fun b xs e => o0z b _ (ne_of e hp (by intro z; cases z)) e
    have free : ∀ {x : Addr} {G : Hp} {o : HO}, G p = some o → (∀ b o, b ≠ p → H b = some o → G b = some o) → G x = none → H x = none := fun {x G o} hG k e => by
      cases e' : H x with
      | none => rfl
      | some u =>
        by_cases n : x = p
        · rw [n, hG] at e
          cases e
        · rw [k x u n e'] at e
          cases e
    refine q Hz d1 d2 d3 ⟨hpz, (((D1.but hp5 o6).same s7).but hp7 o8 |>.same s9).but hp9 oz, ((D2.but hp7 o8).same s9).but hp9 oz, D3.but hp9 oz, hT, hK.mono tz, hS.mono tz, hm2, hn2⟩ (s14.free f1) (free hp6 o06 f2) (free hp8 o08 f3) o0z
/-! ### its properties and lists of names -/
def spProp (C : Addr) (f : List (Str × Int) → List KeyE → List SvE → List (Key × V)) : Sp := fun vs H Q _ => ∃ (p : Addr) (ts : List (Str × Int)) (ks : List KeyE) (ss : List SvE) (m n : Nat), vs = [.ref p] ∧ SchAt C p H ts ks ss m n ∧ ∀ D H', H D = none → DctAt H' D (f ts ks ss) → Same H H' → Q (.ref D) H'
theorem ok_p_tables (T : Txt K mg a d) : FnOk P w K mg base CX0 1 (a 5301) (d 5301) ["self"] (spProp (a 43) fun ts _ _ => tabK ts) := by
  refine T.F5301.ok sc_Schema_tables (fun vs H Q E h => ?_) (fun cdv A outer s H vs Q E hr h => ?_)
  · obtain ⟨p, ts, ks, ss, m, n, rfl, _⟩ := h
    rfl
  · obtain ⟨p, ts, ks, ss, m, n, rfl, ⟨dx, d1, d2, d3, o⟩, q⟩ := h
    obtain ⟨kd, e, pk⟩ := o.tb
    exact ⟨_, (pss_one (ps_ret (pe_callTy (T := "dict")  call_dictD (by rfl) T.z_dict (by decide +kernel) (pa_cons (pe_fld (pv 0) rfl) pa_nil)))), _, rfl, p, _, dx, _, _, rfl, o.ob, T.cl_43, T.no_43__tables, flds_t _ _ _, d1, kd, rfl, .inl e, fun D hD => q D _ hD ⟨kd, upd_same, pk⟩ (same_upd hD)⟩
def spNms (C : Addr) (f : List (Str × Int) → List SvE → List Str) : Sp := fun vs H Q _ => ∃ (p : Addr) (ts : List (Str × Int)) (ks : List KeyE) (ss : List SvE) (m n : Nat), vs = [.ref p] ∧ SchAt C p H ts ks ss m n ∧ ∀ l ys H', H l = none → H' l = some (.lst (ys.map V.str)) → ys.Perm (f ts ss) → PyProof.Rows.sortedS ys = true → Same H H' → Q (.ref l) H'
end
section
variable {P : Program} {w : World} {K : PySem.W.Frag} {mg : Str → Option Value} {base : Heap} {a : Nat → Addr} {d : Nat → FuncData}
/-! ### an unknown name -/
def spUInit (C : Addr) : Sp := fun vs H Q _ => ∃ (x : Addr) (v : V), vs = [.ref x, v] ∧ H x = some (exo x C none) ∧ ∀ dx, H dx = none → dx ≠ x → Q .non (upd (upd H dx (exd dx [(("name" : Str), v)])) x (exo x C (some dx)))
/-- how an UnknownName(v) goes out: its dict dx, new -/
def Unk (C : Addr) (v : V) (H : Hp) (E : XK) : Prop := ∀ dx H', H dx = none → H' dx = some (.xd [(("name" : Str), v)]) → Same H H' → E (.ref C) (some dx) H'
theorem unk_raise {C : Addr} {v : V} {H : Hp} {E : XK} (k : Unk C v H E) : ([v] : List V).length ≤ 1000 ∧ ∀ x, H x = none → spUInit C (.ref x :: ([v] ++ [])) (upd H x (exo x C none))
    (fun u H2 => u = .non ∧ ∃ (dd : Addr) (fs : List (Str × V)), H2 x = some (exo x C (some dd)) ∧ H2 dd = some (exd dd fs) ∧ H dd = none ∧ E (.ref C) (some dd) (upd (del H2 x) dd (.xd fs))) (fun _ _ _ => False) := by
  refine ⟨by show 1 ≤ 1000; decide, fun x hx => ⟨x, v, rfl, upd_same, fun dx hdx ne => ⟨rfl, dx, _, upd_same, by rw [upd_ne ne]; exact upd_same, ?_, ?_⟩⟩⟩
  · rw [upd_ne ne] at hdx
    exact hdx
  · rw [upd_ne ne] at hdx
    refine k dx _ hdx upd_same fun b o e => ?_
    have nb : b ≠ x := ne_of_none e hx
    have nd : b ≠ dx := ne_of_none e hdx
    rw [upd_ne nd, del_ne nb, upd_ne nb, upd_ne nd, upd_ne nb]
    exact e
/-- what is asked of a name: told, or unknown -/
def spAsk (C CU : Addr) (f g : List (Str × Int) → List KeyE → List SvE → Str → Option V) : Sp := fun vs H Q E => ∃ (p : Addr) (n : Str) (ts : List (Str × Int)) (ks : List KeyE) (ss : List SvE) (mt ms : Nat), vs = [.ref p, .str n] ∧ SchAt C p H ts ks ss mt ms ∧
  (∀ v, f ts ks ss n = some v → ∃ u, g ts ks ss n = some u ∧ Q u H) ∧ (f ts ks ss n = none → Unk CU (.str n) H E)
/-! ### is_whole, capped_names -/
def svAt (ss : List SvE) (n : Str) : Option SvE := ss.find? fun b => decide (b.name = n)
theorem svAt_val (n : Str) : ∀ ss : List SvE, valV (svK ss) (Sum.inr n) = (svAt ss n).map fun b => V.ref b.at_
  | [] => rfl
  | b :: ks => by
    have ih := svAt_val n ks
    unfold svAt svK at ih ⊢
    rw [List.map_cons]
    by_cases e : b.name = n
    · rw [valV_pos (by rw [e])]
      simp [e]
    · rw [valV_neg (fun z => e (Sum.inr.inj z)), ih]
      simp [e]
theorem svAt_mem {ss : List SvE} {n : Str} {b : SvE} (h : svAt ss n = some b) : b ∈ ss ∧ b.name = n := by
  unfold svAt at h
  exact ⟨List.mem_of_find?_eq_some h, by simpa using List.find?_some h⟩
def spAskW (C CU : Addr) : Sp := fun vs H Q E => ∃ (p : Addr) (n : Str) (ts : List (Str × Int)) (ks : List KeyE) (ss : List SvE) (mt ms : Nat), vs = [.ref p, .str n] ∧ SchAt C p H ts ks ss mt ms ∧
  (∀ b, svAt ss n = some b → ∀ H', Same H H' → Q (.bl (whE ts ks b)) H') ∧ (svAt ss n = none → Unk CU (.str n) H E)
end
def Low (s : Str) : Prop := ∀ c ∈ s.cps.toList, c < 128
theorem low_ok {s : Str} (h : Low s) : PyData.strOk s = true := by
  unfold PyData.strOk
  rw [Array.all_eq_true']
  intro c hc
  have := h c (by simpa using hc)
  exact decide_eq_true (by omega)
theorem dp_strs {K : PySem.W.Frag} {H : Hp} : ∀ ns : List Str, DpAll K H (ns.map V.str) (ns.map PyData.str)
  | [] => .nil
  | n :: ns => .cons (.str n) (dp_strs ns)
theorem lay_strs : ∀ ns : List Str, (∀ s ∈ ns, Low s) → PyData.canLayAll0 (ns.map PyData.str) = true ∧ PyData.depthAll (ns.map PyData.str) = 0
  | [], _ => by simp [PyData.canLayAll0, PyData.depthAll]
  | n :: ns, h => by
    obtain ⟨h1, h2⟩ := lay_strs ns fun x hx => h x (List.mem_cons_of_mem _ hx)
    simp only [List.map_cons, PyData.canLayAll0, PyData.depthAll, PyData.canLay0, PyData.depth, low_ok (h n List.mem_cons_self), h1, h2, Bool.and_self, true_and]
    rfl
theorem strs_data {K : PySem.W.Frag} {H : Hp} {ns : List Str} (h : ∀ s ∈ ns, Low s) : ∃ dd, (∀ r, H r = some (.lst (ns.map V.str)) → Dp K H (.ref r) dd) ∧ SeqAt.shaped dd = true ∧ PyData.eqv dd dd = true := by
  obtain ⟨h1, h2⟩ := lay_strs ns h
  have hc : (PyData.list (ns.map PyData.str)).canLay0 = true := by simp only [PyData.canLay0, h1]
  refine ⟨.list (ns.map PyData.str), fun r hr => .lst (.of hr) (dp_strs ns), ?_, PySem.SeqAt.eqv_refl _ hc⟩
  unfold SeqAt.shaped
  rw [hc, Bool.true_and]
  exact decide_eq_true (by simp only [PyData.depth, h2]; omega)
theorem wd_low {s : Str} (h : Wd s) : Low s := fun c hc => by
  have := (h.2.2 c hc).2
  omega
theorem str_shaped {x : Str} (h : Low x) : SeqAt.shaped (.str x) = true := by
  unfold SeqAt.shaped
  simp only [PyData.canLay0, PyData.depth, low_ok h]
  rfl
theorem strs_shapedL {ns : List Str} (h : ∀ s ∈ ns, Low s) : SeqAt.shaped (.list (ns.map PyData.str)) = true := by
  obtain ⟨h1, h2⟩ := lay_strs ns h
  unfold SeqAt.shaped
  simp only [PyData.canLay0, PyData.depth, h1, h2]
  decide
/-! ### two dicts by what they hold -/
def valP (f : List (Key × PyData)) (k : Key) : Option PyData := (f.find? fun p => decide (p.1 = k)).map (·.2)
def optE : Option PyData → Option PyData → Bool
  | none, none => true
  | some a, some b => PyData.eqv a b
  | _, _ => false
def eqP (f g : List (Key × PyData)) : Bool := (f.length == g.length) && f.all fun p => match valP g p.1 with
  | none => false
  | some v => PyData.eqv p.2 v
theorem valP_mem {k : Key} {v : PyData} {f : List (Key × PyData)} (h : valP f k = some v) : (k, v) ∈ f := by
  unfold valP at h
  cases e : f.find? fun p => decide (p.1 = k) with
  | none => rw [e] at h; cases h
  | some p =>
    rw [e] at h
    have h1 := List.mem_of_find?_eq_some e
    have h2 : p.1 = k := by simpa using List.find?_some e
    have h3 : p = (k, v) := by rw [← h2, ← Option.some.inj h]
    rw [← h3]
    exact h1
theorem valP_nd {f : List (Key × PyData)} (nd : (f.map (·.1)).Nodup) {k : Key} {v : PyData} (h : (k, v) ∈ f) : valP f k = some v := by
  induction f with
  | nil => cases h
  | cons p f ih =>
    rw [List.map_cons] at nd
    obtain ⟨n1, n2⟩ := List.nodup_cons.mp nd
    unfold valP at ih ⊢
    rcases List.mem_cons.mp h with rfl | h
    · rw [List.find?_cons_of_pos (by simp)]
      rfl
    · rw [List.find?_cons_of_neg ?_]
      · exact ih n2 h
      · intro z
        have z' : p.1 = k := by simpa using z
        exact n1 (by rw [z']; exact List.mem_map.mpr ⟨_, h, rfl⟩)
theorem valP_none {f : List (Key × PyData)} {k : Key} (h : valP f k = none) : k ∉ f.map (·.1) := fun hm => by
  obtain ⟨p, hp, e⟩ := List.mem_map.mp hm
  unfold valP at h
  cases e2 : f.find? fun p => decide (p.1 = k) with
  | some q => rw [e2] at h; cases h
  | none =>
    have := List.find?_eq_none.mp e2 p hp
    simp [e] at this
theorem eqP_iff {f g : List (Key × PyData)} (nf : (f.map (·.1)).Nodup) (ng : (g.map (·.1)).Nodup) : eqP f g = true ↔ ∀ k, optE (valP f k) (valP g k) = true := by
  unfold eqP
  rw [Bool.and_eq_true, List.all_eq_true, beq_iff_eq]
  constructor
  · rintro ⟨h1, h2⟩ k
    have sub : ∀ x ∈ f.map (·.1), x ∈ g.map (·.1) := fun x hx => by
      obtain ⟨p, hp, rfl⟩ := List.mem_map.mp hx
      have := h2 p hp
      cases e : valP g p.1 with
      | none => rw [e] at this; cases this
      | some v => exact List.mem_map.mpr ⟨_, valP_mem e, rfl⟩
    have back := (nd_sub nf sub).2 (by rw [List.length_map, List.length_map, h1]; exact Nat.le_refl _)
    cases e1 : valP f k with
    | none =>
      cases e2 : valP g k with
      | none => rfl
      | some v => exact absurd (back k (List.mem_map.mpr ⟨_, valP_mem e2, rfl⟩)) (valP_none e1)
    | some u =>
      have := h2 _ (valP_mem e1)
      cases e2 : valP g k with
      | none =>
        have e2' : valP g (k, u).1 = none := e2
        rw [e2'] at this
        cases this
      | some v =>
        have e2' : valP g (k, u).1 = some v := e2
        rw [e2'] at this
        exact this
  · intro h
    have key : ∀ f g : List (Key × PyData), (∀ k, optE (valP f k) (valP g k) = true) → (f.map (·.1)).Nodup → ∀ x ∈ f.map (·.1), x ∈ g.map (·.1) := fun f g h nf x hx => by
      obtain ⟨p, hp, rfl⟩ := List.mem_map.mp hx
      have := h p.1
      rw [valP_nd nf (k := p.1) (v := p.2) hp] at this
      cases e : valP g p.1 with
      | none => rw [e] at this; cases this
      | some v => exact List.mem_map.mpr ⟨_, valP_mem e, rfl⟩
    have h' : ∀ k, optE (valP g k) (valP f k) = true := fun k => by
      have := h k
      cases e1 : valP f k <;> cases e2 : valP g k <;> rw [e1, e2] at this <;> try (first | rfl | cases this)
      show PyData.eqv _ _ = true
      rw [PySem.W.eqv_comm]
      exact this
    have l1 := (nd_sub nf (key f g h nf)).1
    have l2 := (nd_sub ng (key g f h' ng)).1
    rw [List.length_map, List.length_map] at l1 l2
    refine ⟨by omega, fun p hp => ?_⟩
    have := h p.1
    rw [valP_nd nf (k := p.1) (v := p.2) hp] at this
    cases e : valP g p.1 with
    | none => rw [e] at this; cases this
    | some v => rw [e] at this; exact this
theorem optE_comm (a b : Option PyData) : optE a b = optE b a := by
  cases a <;> cases b <;> try rfl
  exact PySem.W.eqv_comm _ _
theorem eqP_comm {f g : List (Key × PyData)} (nf : (f.map (·.1)).Nodup) (ng : (g.map (·.1)).Nodup) : eqP f g = eqP g f := by
  apply Bool.eq_iff_iff.mpr
  rw [eqP_iff nf ng, eqP_iff ng nf]
  exact ⟨fun h k => by rw [optE_comm]; exact h k, fun h k => by rw [optE_comm]; exact h k⟩
theorem permP_nd {f g : List (Key × PyData)} (p : f.Perm g) (ng : (g.map (·.1)).Nodup) : (f.map (·.1)).Nodup := (p.map (·.1)).nodup_iff.mpr ng
theorem valP_perm {f g : List (Key × PyData)} (p : f.Perm g) (ng : (g.map (·.1)).Nodup) (k : Key) : valP f k = valP g k := by
  cases h : valP g k with
  | some v => exact valP_nd (permP_nd p ng) (p.mem_iff.mpr (valP_mem h))
  | none =>
    cases h' : valP f k with
    | none => rfl
    | some v => rw [valP_nd ng (p.mem_iff.mp (valP_mem h'))] at h; cases h
theorem eqP_perm {f f' g g' : List (Key × PyData)} (p : f.Perm f') (q : g.Perm g') (nf : (f'.map (·.1)).Nodup) (ng : (g'.map (·.1)).Nodup) : eqP f g = eqP f' g' := by
  apply Bool.eq_iff_iff.mpr
  rw [eqP_iff (permP_nd p nf) (permP_nd q ng), eqP_iff nf ng]
  exact ⟨fun h k => by have := h k; rw [valP_perm p nf, valP_perm q ng] at this; exact this, fun h k => by rw [valP_perm p nf, valP_perm q ng]; exact h k⟩
theorem eqP_refl {f : List (Key × PyData)} (nf : (f.map (·.1)).Nodup) (hd : ∀ p ∈ f, SeqAt.shaped p.2 = true) : eqP f f = true := by
  rw [eqP_iff nf nf]
  intro k
  cases e : valP f k with
  | none => rfl
  | some v => exact PySem.SeqAt.eqv_refl v (PySem.SeqAt.canLay_of_shaped (hd _ (valP_mem e)))
/-! data at an address, two levels deep -/
def dt0 : V → PyData
  | .int i => .int i
  | .str s => .str s
  | .bl b => .bool b
  | _ => .none
def dt1 (H : Hp) : V → PyData
  | .ref a => match H a with
    | some (.tup xs) => .tuple (xs.map dt0)
    | _ => .none
  | v => dt0 v
def dt2 (H : Hp) : V → PyData
  | .ref a => match H a with
    | some (.tup xs) => .tuple (xs.map (dt1 H))
    | _ => .none
  | v => dt0 v
/-- a dict at t that holds this data, in any order -/
def DDat (K : PySem.W.Frag) (H : Hp) (t : Addr) (f : List (Key × PyData)) : Prop := ∃ ks, H t = some (.dK ks) ∧ (ks.map fun p => (p.1, dt2 H p.2)).Perm f ∧ ∀ p ∈ ks, Dp K H p.2 (dt2 H p.2) ∧ SeqAt.shaped (dt2 H p.2) = true
theorem valP_map (D : V → PyData) (k : Key) : ∀ ls : List (Key × V), valP (ls.map fun p => (p.1, D p.2)) k = (valV ls k).map D
  | [] => rfl
  | p :: ls => by
    have ih := valP_map D k ls
    unfold valP at ih ⊢
    rw [List.map_cons]
    by_cases e : p.1 = k
    · rw [valV_pos e, List.find?_cons_of_pos (by simp [e])]
      rfl
    · rw [valV_neg e, List.find?_cons_of_neg (by simp [e])]
      exact ih
theorem eqT_P (D : V → PyData) (ks ls : List (Key × V)) : L2.eqT D ks ls = eqP (ks.map fun p => (p.1, D p.2)) (ls.map fun p => (p.1, D p.2)) := by
  unfold L2.eqT eqP
  rw [List.length_map, List.length_map, List.all_map]
  congr 1
  congr 1
  funext p
  show (match valV ls p.1 with | none => false | some v => PyData.eqv (D p.2) (D v)) = match valP (ls.map fun p => (p.1, D p.2)) p.1 with | none => false | some v => PyData.eqv (D p.2) v
  rw [valP_map]
  cases valV ls p.1 <;> rfl
theorem rEqT_of {K : PySem.W.Frag} {H : Hp} {a b : Addr} {f g : List (Key × PyData)} {neg : Bool} {Q : VK} (h1 : DDat K H a f) (h2 : DDat K H b g) (nf : (f.map (·.1)).Nodup) (ng : (g.map (·.1)).Nodup) (q : Q (.bl (if neg then !eqP f g else eqP f g)) H) : rEqT K neg (.ref a) (.ref b) H Q := by
  obtain ⟨ks, e1, p1, d1⟩ := h1
  obtain ⟨ls, e2, p2, d2⟩ := h2
  refine ⟨a, b, ks, ls, dt2 H, rfl, rfl, e1, e2, d1, d2, ?_⟩
  rw [eqT_P, eqP_perm p1 p2 nf ng]
  exact q
theorem DDat.of {K : PySem.W.Frag} {H : Hp} {t : Addr} {kvs : List (Key × V)} {f : List (Key × PyData)} (h : DctAt H t kvs) (e : (kvs.map fun p => (p.1, dt2 H p.2)) = f) (hd : ∀ p ∈ kvs, Dp K H p.2 (dt2 H p.2) ∧ SeqAt.shaped (dt2 H p.2) = true) : DDat K H t f := by
  obtain ⟨ks, e1, p⟩ := h
  exact ⟨ks, e1, by rw [← e]; exact p.map _, fun x hx => hd x (p.mem_iff.mp hx)⟩
/-! the data of tables, keys and services -/
def tabP (ts : List (Str × Int)) : List (Key × PyData) := ts.map fun p => (Sum.inr p.1, .int p.2)
def keyP (ks : List KeyE) : List (Key × PyData) := ks.map fun b => (Sum.inr b.1, .tuple (b.2.2.map PyData.int))
def capP : Option Int → PyData
  | none => .none
  | some c => .int c
def svP (ss : List SvE) : List (Key × PyData) := ss.map fun b => (Sum.inr b.name, .tuple [.str b.tab, .tuple (b.cols.map PyData.int), capP b.cap])
theorem tabP_nd {ts : List (Str × Int)} {m : Nat} {wm : Int} (h : Tabs ts m wm) : ((tabP ts).map (·.1)).Nodup := by
  have := tab_nd h
  unfold tabK at this
  unfold tabP
  rw [List.map_map] at this ⊢
  exact this
theorem keyP_nd {H : Hp} {ts : List (Str × Int)} {ks : List KeyE} (h : Keys H ts ks) : ((keyP ks).map (·.1)).Nodup := by
  have := inr_nd h.nd
  unfold keyP
  rw [List.map_map] at this ⊢
  exact this
theorem svP_nd {ss : List SvE} {n : Nat} (h : Nms (ss.map (·.name)) n) : ((svP ss).map (·.1)).Nodup := by
  have := inr_nd h.nd
  unfold svP
  rw [List.map_map] at this ⊢
  exact this
theorem wd_strOk {s : Str} (h : Wd s) : PyData.strOk s = true := by
  unfold PyData.strOk
  rw [Array.all_eq_true_iff_forall_mem]
  intro c hc
  have := (h.2.2 c (Array.mem_toList_iff.mpr hc)).2
  exact decide_eq_true (by omega)
theorem ints_tup_shaped (ns : List Int) : SeqAt.shaped (.tuple (ns.map PyData.int)) = true := by
  obtain ⟨h1, h2⟩ := lay_ints ns
  show ((PyData.tuple (ns.map PyData.int)).canLay0 && decide ((PyData.tuple (ns.map PyData.int)).depth ≤ 64)) = true
  simp only [PyData.canLay0, PyData.depth, h1, h2]
  decide
theorem sv_shaped {n : Str} (hn : PyData.strOk n = true) (ns : List Int) (c : Option Int) : SeqAt.shaped (.tuple [.str n, .tuple (ns.map PyData.int), capP c]) = true := by
  obtain ⟨h1, h2⟩ := lay_ints ns
  show ((PyData.tuple [.str n, .tuple (ns.map PyData.int), capP c]).canLay0 && decide ((PyData.tuple [.str n, .tuple (ns.map PyData.int), capP c]).depth ≤ 64)) = true
  cases c <;> simp only [PyData.canLay0, PyData.depth, PyData.canLayAll0, PyData.depthAll, capP, h1, h2, hn] <;> decide
theorem dt1_ints {H : Hp} {a : Addr} {ns : List Int} (h : H a = some (.tup (ns.map V.int))) : dt1 H (.ref a) = .tuple (ns.map PyData.int) := by
  show (match H a with | some (.tup xs) => PyData.tuple (xs.map dt0) | _ => .none) = _
  rw [h]
  show PyData.tuple ((ns.map V.int).map dt0) = _
  rw [List.map_map]
  rfl
theorem dt2_ints {H : Hp} {a : Addr} {ns : List Int} (h : H a = some (.tup (ns.map V.int))) : dt2 H (.ref a) = .tuple (ns.map PyData.int) := by
  show (match H a with | some (.tup xs) => PyData.tuple (xs.map (dt1 H)) | _ => .none) = _
  rw [h]
  show PyData.tuple ((ns.map V.int).map (dt1 H)) = _
  rw [List.map_map]
  rfl
theorem dt_cap (H : Hp) (c : Option Int) : dt1 H (capV c) = capP c := by cases c <;> rfl
theorem dp_cap {K : PySem.W.Frag} {H : Hp} (c : Option Int) : Dp K H (capV c) (capP c) := by
  cases c with
  | none => exact .non
  | some i => exact .int i
theorem dt2_told {H : Hp} {v ga : Addr} {n : Str} {cs : List Int} {c : Option Int} (h : Told H v n ga cs c) : dt2 H (.ref v) = .tuple [.str n, .tuple (cs.map PyData.int), capP c] := by
  show (match H v with | some (.tup xs) => PyData.tuple (xs.map (dt1 H)) | _ => .none) = _
  rw [h.tup]
  show PyData.tuple [dt1 H (.str n), dt1 H (.ref ga), dt1 H (capV c)] = _
  rw [dt1_ints h.cols, dt_cap]
  rfl
theorem ddat_tab {K : PySem.W.Frag} {H : Hp} {t : Addr} {ts : List (Str × Int)} (h : DctAt H t (tabK ts)) : DDat K H t (tabP ts) := by
  refine .of h ?_ fun p hp => ?_
  · unfold tabK tabP
    rw [List.map_map]
    rfl
  · obtain ⟨b, _, rfl⟩ := List.mem_map.mp hp
    exact ⟨.int _, rfl⟩
theorem ddat_key {K : PySem.W.Frag} {H : Hp} {t : Addr} {ts : List (Str × Int)} {ks : List KeyE} (h : DctAt H t (keyK ks)) (hK : Keys H ts ks) : DDat K H t (keyP ks) := by
  refine .of h ?_ fun p hp => ?_
  · unfold keyK keyP
    rw [List.map_map]
    refine List.map_congr_left fun b hb => ?_
    show (Sum.inr b.1, dt2 H (.ref b.2.1)) = _
    rw [dt2_ints (hK.at_ b hb)]
  · obtain ⟨b, hb, rfl⟩ := List.mem_map.mp hp
    show Dp K H (.ref b.2.1) (dt2 H (.ref b.2.1)) ∧ SeqAt.shaped (dt2 H (.ref b.2.1)) = true
    rw [dt2_ints (hK.at_ b hb)]
    exact ⟨.tup (.of (hK.at_ b hb)) (dp_ints _), ints_tup_shaped _⟩
theorem ddat_sv {K : PySem.W.Frag} {H : Hp} {t : Addr} {ss : List SvE} (h : DctAt H t (svK ss)) (hS : ∀ b ∈ ss, Told H b.at_ b.tab b.ga b.cols b.cap ∧ Wd b.tab) : DDat K H t (svP ss) := by
  refine .of h ?_ fun p hp => ?_
  · unfold svK svP
    rw [List.map_map]
    refine List.map_congr_left fun b hb => ?_
    show (Sum.inr b.name, dt2 H (.ref b.at_)) = _
    rw [dt2_told (hS b hb).1]
  · obtain ⟨b, hb, rfl⟩ := List.mem_map.mp hp
    show Dp K H (.ref b.at_) (dt2 H (.ref b.at_)) ∧ SeqAt.shaped (dt2 H (.ref b.at_)) = true
    rw [dt2_told (hS b hb).1]
    exact ⟨.tup (.of (hS b hb).1.tup) (.cons (.str _) (.cons (.tup (.of (hS b hb).1.cols) (dp_ints _)) (.cons (dp_cap _) .nil))), sv_shaped (wd_strOk (hS b hb).2) _ _⟩
/-! ### uncapped -/
def uncE (ss : List SvE) (n : Str) (p : Addr) : List SvE := ss.map fun c => if c.name = n then { c with at_ := p, cap := none } else c
theorem uncE_names (ss : List SvE) (n : Str) (p : Addr) : (uncE ss n p).map (·.name) = ss.map (·.name) := by
  unfold uncE
  rw [List.map_map]
  refine List.map_congr_left fun c _ => ?_
  show (if c.name = n then _ else c).name = c.name
  split <;> rfl
theorem fillE_unc (ts : List (Str × Int)) (ks : List KeyE) (n : Str) (p : Addr) : ∀ ss : List SvE, (fillE ts ks (uncE ss n p)).Sublist (fillE ts ks ss)
  | [] => List.Sublist.refl _
  | c :: ss => by
    have ih := fillE_unc ts ks n p ss
    unfold fillE uncE at ih ⊢
    rw [List.map_cons]
    by_cases e : c.name = n
    · rw [if_pos e]
      have hw : whE ts ks { c with at_ := p, cap := none } = true := rfl
      rw [List.filter_cons_of_neg (by rw [hw]; decide)]
      by_cases h : whE ts ks c = true
      · rw [List.filter_cons_of_neg (by rw [h]; decide)]
        exact ih
      · rw [List.filter_cons_of_pos (by simp [h]), List.map_cons]
        exact ih.cons _
    · rw [if_neg e]
      by_cases h : whE ts ks c = true
      · rw [List.filter_cons_of_neg (by rw [h]; decide), List.filter_cons_of_neg (by rw [h]; decide)]
        exact ih
      · rw [List.filter_cons_of_pos (by simp [h]), List.filter_cons_of_pos (by simp [h]), List.map_cons, List.map_cons]
        exact ih.cons₂ _
theorem putK_map {ss : List SvE} {n : Str} (p : Addr) (h : n ∈ ss.map (·.name)) : putK (svK ss) (Sum.inr n) (V.ref p) = svK (uncE ss n p) := by
  unfold putK
  have ha : ((svK ss).any fun kv => decide (kv.1 = Sum.inr n)) = true := by
    obtain ⟨b, hb, e⟩ := List.mem_map.mp h
    exact List.any_eq_true.mpr ⟨_, List.mem_map.mpr ⟨b, hb, rfl⟩, decide_eq_true (by rw [e])⟩
  rw [if_pos ha]
  unfold svK uncE
  rw [List.map_map, List.map_map]
  refine List.map_congr_left fun c _ => ?_
  show (if (Sum.inr c.name : Key) = Sum.inr n then _ else _) = (fun b : SvE => ((Sum.inr b.name : Key), V.ref b.at_)) (if c.name = n then _ else c)
  by_cases e : c.name = n
  · rw [if_pos e, if_pos (by rw [e])]
  · rw [if_neg e, if_neg (fun z => e (Sum.inr.inj z))]
theorem putK_perm {κ : Type} [DecidableEq κ] {a b : List (κ × V)} (p : a.Perm b) (k : κ) (v : V) : (putK a k v).Perm (putK b k v) := by
  unfold putK
  have e : (a.any fun kv => decide (kv.1 = k)) = b.any fun kv => decide (kv.1 = k) := by
    apply Bool.eq_iff_iff.mpr
    rw [List.any_eq_true, List.any_eq_true]
    exact ⟨fun ⟨x, hx, h⟩ => ⟨x, p.mem_iff.mp hx, h⟩, fun ⟨x, hx, h⟩ => ⟨x, p.mem_iff.mpr hx, h⟩⟩
  rw [e]
  split
  · exact p.map _
  · exact p.append_right _
theorem name_uniq : ∀ {ss : List SvE} {b c : SvE}, (ss.map (·.name)).Nodup → b ∈ ss → c ∈ ss → b.name = c.name → b = c
  | x :: ss, b, c, nd, hb, hc, e => by
    rw [List.map_cons] at nd
    obtain ⟨n1, n2⟩ := List.nodup_cons.mp nd
    rcases List.mem_cons.mp hb with rfl | hb
    · rcases List.mem_cons.mp hc with rfl | hc
      · rfl
      · exact absurd (by rw [e]; exact List.mem_map.mpr ⟨_, hc, rfl⟩) n1
    · rcases List.mem_cons.mp hc with rfl | hc
      · exact absurd (by rw [← e]; exact List.mem_map.mpr ⟨_, ‹b ∈ ss›, rfl⟩) n1
      · exact name_uniq n2 ‹b ∈ ss› ‹c ∈ ss› e
section
variable {P : Program} {w : World} {K : PySem.W.Frag} {mg : Str → Option Value} {base : Heap} {a : Nat → Addr} {d : Nat → FuncData}
/-! ### == of two schemas -/
def schB (ts : List (Str × Int)) (ks : List KeyE) (ss : List SvE) (ts' : List (Str × Int)) (ks' : List KeyE) (ss' : List SvE) : Bool := eqP (tabP ts) (tabP ts') && (eqP (keyP ks) (keyP ks') && eqP (svP ss) (svP ss'))
theorem sv_toldW {H : Hp} {ts : List (Str × Int)} {ss : List SvE} {m : Nat} {wm : Int} (hT : Tabs ts m wm) (h : ∀ b ∈ ss, SvOk H ts b) : ∀ b ∈ ss, Told H b.at_ b.tab b.ga b.cols b.cap ∧ Wd b.tab := fun b hb => by
  obtain ⟨t, ⟨w, hw, _⟩, _⟩ := h b hb
  exact ⟨t, hT.nm.wd _ (List.mem_map.mpr ⟨_, hw, rfl⟩)⟩
def spSEq (C : Addr) : Sp := fun vs H Q _ => ∃ (p q : Addr) (ts : List (Str × Int)) (ks : List KeyE) (ss : List SvE) (m n : Nat) (ts' : List (Str × Int)) (ks' : List KeyE) (ss' : List SvE) (m' n' : Nat), vs = [.ref p, .ref q] ∧ SchAt C p H ts ks ss m n ∧ SchAt C q H ts' ks' ss' m' n' ∧ Q (.bl (schB ts ks ss ts' ks' ss')) H
theorem ok_seq (T : Txt K mg a d) : FnOk P w K mg base CX0 1 (a 5304) (d 5304) ["self", "other"] (spSEq (a 43)) := by
  refine T.F5304.ok sc_Schema___eq__ (fun vs H Q E h => ?_) (fun cdv A outer s H vs Q E hr h => ?_)
  · obtain ⟨p, q, ts, ks, ss, m, n, ts', ks', ss', m', n', rfl, _⟩ := h
    rfl
  · obtain ⟨p, q, ts, ks, ss, m, n, ts', ks', ss', m', n', rfl, ⟨dx, d1, d2, d3, O⟩, ⟨dy, e1, e2, e3, O'⟩, k⟩ := h
    refine ⟨_, (pss_one (ps_ret (pe_and (pe_callB (id := "isinstance")  (C8.call_isC T.ic_43) (by rfl) T.z_isinstance (by decide +kernel) (pa_cons (pv 1) (pa_cons (pe_glob (v := .ref (a 43)) (by rfl) T.cg_43 rfl) pa_nil))) (pe_and (pe_cmpR (op_eqT (hu_of65 hr)) (pe_fld (pv 0) rfl) (pe_fld (pv 1) rfl) (nomark _)) (pe_and (pe_cmpR (op_eqT (hu_of65 hr)) (pe_fld (pv 0) rfl) (pe_fld (pv 1) rfl) (nomark _)) (pe_one (pe_cmpR (op_eqT (hu_of65 hr)) (pe_fld (pv 0) rfl) (pe_fld (pv 1) rfl) (nomark _)))))))), ?_⟩
    refine ⟨_, rfl, q, dy, _, rfl, O'.ob, true, rfl, ?_⟩
    unfold schB at k
    refine ⟨_, rfl, p, _, dx, _, _, rfl, O.ob, T.cl_43, T.no_43__tables, flds_t _ _ _, _, rfl, q, _, dy, _, _, rfl, O'.ob, T.cl_43, T.no_43__tables, flds_t _ _ _, rEqT_of (ddat_tab O.tb) (ddat_tab O'.tb) (tabP_nd O.hT) (tabP_nd O'.hT) ⟨_, rfl, ?_⟩⟩
    show if eqP (tabP ts) (tabP ts') = true then _ else _
    cases h1 : eqP (tabP ts) (tabP ts') with
    | false =>
      rw [h1] at k
      exact k
    | true =>
      rw [h1, Bool.true_and] at k
      refine ⟨_, rfl, p, _, dx, _, _, rfl, O.ob, T.cl_43, T.no_43__keys, flds_k _ _ _, _, rfl, q, _, dy, _, _, rfl, O'.ob, T.cl_43, T.no_43__keys, flds_k _ _ _, rEqT_of (ddat_key O.ky O.hK) (ddat_key O'.ky O'.hK) (keyP_nd O.hK) (keyP_nd O'.hK) ⟨_, rfl, ?_⟩⟩
      show if eqP (keyP ks) (keyP ks') = true then _ else _
      cases h2 : eqP (keyP ks) (keyP ks') with
      | false =>
        rw [h2] at k
        exact k
      | true =>
        rw [h2, Bool.true_and] at k
        exact ⟨_, rfl, p, _, dx, _, _, rfl, O.ob, T.cl_43, T.no_43__services, flds_s _ _ _, _, rfl, q, _, dy, _, _, rfl, O'.ob, T.cl_43, T.no_43__services, flds_s _ _ _, rEqT_of (ddat_sv O.sv (sv_toldW O.hT O.hS.ok)) (ddat_sv O'.sv (sv_toldW O'.hT O'.hS.ok)) (svP_nd O.hS.nm) (svP_nd O'.hS.nm) k⟩
end
theorem schB_refl {H : Hp} {ts : List (Str × Int)} {ks : List KeyE} {ss : List SvE} {m n : Nat} (hT : Tabs ts m 4) (hK : Keys H ts ks) (hS : Svcs H ts ks ss n) : schB ts ks ss ts ks ss = true := by
  unfold schB
  rw [eqP_refl (tabP_nd hT) (fun p hp => ?_), eqP_refl (keyP_nd hK) (fun p hp => ?_), eqP_refl (svP_nd hS.nm) (fun p hp => ?_)]
  · rfl
  · obtain ⟨b, hb, rfl⟩ := List.mem_map.mp hp
    exact sv_shaped (wd_strOk (sv_toldW hT hS.ok b hb).2) _ _
  · obtain ⟨b, hb, rfl⟩ := List.mem_map.mp hp
    exact ints_tup_shaped _
  · obtain ⟨b, hb, rfl⟩ := List.mem_map.mp hp
    simp [SeqAt.shaped, PyData.canLay0, PyData.depth]
theorem mk_schema {C t k v : Addr} {H : Hp} {ts : List (Str × Int)} {ks : List KeyE} {ss : List SvE} {m n : Nat} {Q' : Hp → Prop} {E : XK} {x dx : Addr} (ht : DctAt H t (tabK ts)) (hk : DctAt H k (keyK ks)) (hv : DctAt H v (svK ss)) (hT : Tabs ts m 4) (hK : Keys H ts ks) (hS : Svcs H ts ks ss n) (m1 : 1 ≤ m) (m5 : m ≤ 5) (n1 : 1 ≤ n) (n8 : n ≤ 8)
    (fx : H x = none) (fdx : H dx = none) (ndx : dx ≠ x) (q : ∀ H', SchAt C x H' ts ks ss m n → Same H H' → Q' H') :
    spSInit C (.ref x :: ([.ref t, .ref k, .ref v] ++ [])) (upd (upd H dx (.own x)) x (.ins C dx [])) (fun u H2 => u = .non ∧ Q' H2) E := by
  have s1 := same_upd (o := .own x) fdx
  have f1 : upd H dx (.own x) x = none := by rw [upd_ne ndx.symm]; exact fx
  have s := s1.trans (same_upd (o := .ins C dx []) f1)
  exact ⟨x, dx, t, k, v, ts, ks, ss, m, n, rfl, upd_same, ht.same s, hk.same s, hv.same s, hT, hK.mono fun _ _ e => s _ _ e, hS.mono fun _ _ e => s _ _ e, m1, m5, n1, n8, fun Hz e1 e2 e3 Oz _ _ _ keep => ⟨rfl, q Hz ⟨dx, e1, e2, e3, Oz⟩ fun b u e => keep b u (ne_of_none e fx) (s _ _ e)⟩⟩
/-! ### things of any kind -/
def tupOf (H : Hp) : V → Option (List V)
  | .ref a => match H a with
    | some (.tup xs) => some xs
    | _ => none
  | _ => none
theorem tupOf_tup {H : Hp} {a : Addr} {xs : List V} (e : H a = some (.tup xs)) : tupOf H (.ref a) = some xs := by
  show (match H a with | some (.tup xs) => some xs | _ => none) = _
  rw [e]
theorem tupOf_lst {H : Hp} {a : Addr} {xs : List V} (e : H a = some (.lst xs)) : tupOf H (.ref a) = none := by
  show (match H a with | some (.tup xs) => some xs | _ => none) = _
  rw [e]
def goCols (w : Int) : Int → List V → Bool
  | _, [] => true
  | l, .int i :: xs => decide (l ≤ i ∧ i < w) && goCols w (i + 1) xs
  | _, _ :: _ => false
def colsB (H : Hp) (v : V) (w : Int) : Bool := match tupOf H v with
  | some xs => goCols w 0 xs
  | none => false
def countB (m : Int) : V → Bool
  | .int i => decide (1 ≤ i ∧ i ≤ m)
  | _ => false
def keyB (H : Hp) (v : V) (w : Int) : Bool := match tupOf H v with
  | some xs => goCols w 0 xs && decide (0 < (xs.length : Int) ∧ (xs.length : Int) < w)
  | none => false
def widthOf (kvs : List (Key × V)) (n : Str) : Option Int := match valV kvs (Sum.inr n) with
  | some (.int w) => some w
  | _ => none
def svcL (H : Hp) (kvs : List (Key × V)) : List V → Bool
  | [x, g, c] => (match x with
    | .str n => (match widthOf kvs n with
      | some w => colsB H g w
      | none => false)
    | _ => false) && (decide (c = .non) || countB 4 c)
  | _ => false
def svcB (H : Hp) (kvs : List (Key × V)) (v : V) : Bool := match tupOf H v with
  | some xs => svcL H kvs xs
  | none => false
theorem svcL_len {H : Hp} {kvs : List (Key × V)} : ∀ {xs : List V}, xs.length ≠ 3 → svcL H kvs xs = false
  | [], _ => rfl
  | [_], _ => rfl
  | [_, _], _ => rfl
  | [_, _, _], h => absurd rfl h
  | _ :: _ :: _ :: _ :: _, _ => rfl
/-- what was a tuple or a list is one still -/
structure Kp (H H' : Hp) : Prop where
  tup : ∀ a xs, H a = some (.tup xs) → H' a = some (.tup xs)
  lst : ∀ a xs, H a = some (.lst xs) → ∃ ys, H' a = some (.lst ys)
theorem Kp.refl (H : Hp) : Kp H H := ⟨fun _ _ e => e, fun _ xs e => ⟨xs, e⟩⟩
theorem Kp.trans {H H1 H2 : Hp} (a : Kp H H1) (b : Kp H1 H2) : Kp H H2 := ⟨fun x xs e => b.tup _ _ (a.tup x xs e), fun x xs e => by
  obtain ⟨ys, e1⟩ := a.lst x xs e
  exact b.lst x ys e1⟩
theorem Kp.same {H H' : Hp} (s : Same H H') : Kp H H' := ⟨fun _ _ e => s _ _ e, fun _ xs e => ⟨xs, s _ _ e⟩⟩
theorem Kp.chg {H H' : Hp} {p : Addr} (hP : PoolAt H p) (c : Chg p H H') : Kp H H' := ⟨chg_tup hP c, fun a xs e => by
  by_cases n : a = p
  · subst n
    obtain ⟨p0, p1, p2, p3, r, e', _⟩ := c.1
    exact ⟨_, e'⟩
  · exact ⟨xs, c.at n e⟩⟩
theorem Kp.dict {H : Hp} {t : Addr} {kvs : List (Key × V)} {o : HO} (e : H t = some (.dK kvs)) : Kp H (upd H t o) := ⟨upd_tup e (by intro _ z; cases z), fun a xs e' => ⟨xs, by
  rw [upd_ne (ne_of e' e (by intro z; cases z))]
  exact e'⟩⟩
theorem Thg.kp {H H' : Hp} {v : V} (h : Thg H v) (k : Kp H H') : Thg H' v := by
  cases h with
  | int i => exact .int i
  | bl b => exact .bl b
  | non => exact .non
  | str s h hc => exact .str s h hc
  | lst e =>
    obtain ⟨ys, e'⟩ := k.lst _ _ e
    exact .lst e'
  | tup e => exact .tup (k.tup _ _ e)
theorem tupOf_kp {H H' : Hp} {v : V} (h : Thg H v) (k : Kp H H') : tupOf H' v = tupOf H v := by
  cases h with
  | int i => rfl
  | bl b => rfl
  | non => rfl
  | str s h hc => rfl
  | lst e =>
    obtain ⟨ys, e'⟩ := k.lst _ _ e
    rw [tupOf_lst e, tupOf_lst e']
  | tup e => rw [tupOf_tup e, tupOf_tup (k.tup _ _ e)]
/-- a thing; if it is a tuple, its parts are things -/
structure Th1 (H : Hp) (v : V) : Prop where
  th : Thg H v
  it : ∀ xs, tupOf H v = some xs → xs.length ≤ 100 ∧ ∀ x ∈ xs, Thg H x
structure Th2 (H : Hp) (v : V) : Prop where
  th : Thg H v
  it : ∀ xs, tupOf H v = some xs → xs.length ≤ 100 ∧ ∀ x ∈ xs, Th1 H x
theorem Th1.kp {H H' : Hp} {v : V} (h : Th1 H v) (k : Kp H H') : Th1 H' v := ⟨h.th.kp k, fun xs e => by
  rw [tupOf_kp h.th k] at e
  exact ⟨(h.it xs e).1, fun x hx => ((h.it xs e).2 x hx).kp k⟩⟩
theorem Th2.kp {H H' : Hp} {v : V} (h : Th2 H v) (k : Kp H H') : Th2 H' v := ⟨h.th.kp k, fun xs e => by
  rw [tupOf_kp h.th k] at e
  exact ⟨(h.it xs e).1, fun x hx => ((h.it xs e).2 x hx).kp k⟩⟩
theorem Th1.flat {H : Hp} {v : V} (h : Thg H v) (n : tupOf H v = none) : Th1 H v := ⟨h, fun xs e => by rw [n] at e; cases e⟩
theorem Th2.flat {H : Hp} {v : V} (h : Thg H v) (n : tupOf H v = none) : Th2 H v := ⟨h, fun xs e => by rw [n] at e; cases e⟩
theorem Th1.tup {H : Hp} {a : Addr} {xs : List V} (e : H a = some (.tup xs)) (l : xs.length ≤ 100) (h : ∀ x ∈ xs, Thg H x) : Th1 H (.ref a) := ⟨.tup e, fun ys e' => by
  rw [tupOf_tup e] at e'
  cases e'
  exact ⟨l, h⟩⟩
theorem Th2.tup {H : Hp} {a : Addr} {xs : List V} (e : H a = some (.tup xs)) (l : xs.length ≤ 100) (h : ∀ x ∈ xs, Th1 H x) : Th2 H (.ref a) := ⟨.tup e, fun ys e' => by
  rw [tupOf_tup e] at e'
  cases e'
  exact ⟨l, h⟩⟩
theorem Th1.up {H : Hp} {v : V} (h : Th1 H v) (hx : ∀ xs, tupOf H v = some xs → ∀ x ∈ xs, tupOf H x = none) : Th2 H v := ⟨h.th, fun xs e => ⟨(h.it xs e).1, fun x hm => .flat ((h.it xs e).2 x hm) (hx xs e x hm)⟩⟩
theorem colsB_kp {H H' : Hp} {v : V} {w : Int} (h : Thg H v) (k : Kp H H') : colsB H' v w = colsB H v w := by
  unfold colsB
  rw [tupOf_kp h k]
theorem keyB_kp {H H' : Hp} {v : V} {w : Int} (h : Thg H v) (k : Kp H H') : keyB H' v w = keyB H v w := by
  unfold keyB
  rw [tupOf_kp h k]
/-! ### a dict of names -/
def kvK (kv : List (Str × V)) : List (Key × V) := kv.map fun p => (Sum.inr p.1, p.2)
theorem keys_kv (kv : List (Str × V)) : (kvK kv).map (·.1) = (kv.map (·.1)).map Sum.inr := by
  unfold kvK
  rw [List.map_map, List.map_map]
  rfl
theorem kv_nd {kv : List (Str × V)} (h : (kv.map (·.1)).Nodup) : ((kvK kv).map (·.1)).Nodup := by
  rw [keys_kv]
  exact inr_nd h
def valN (kv : List (Str × V)) (n : Str) : V := (valV (kvK kv) (Sum.inr n)).getD .non
theorem valN_mem {kv : List (Str × V)} {n : Str} (h : n ∈ kv.map (·.1)) (nd : (kv.map (·.1)).Nodup) : valV (kvK kv) (Sum.inr n) = some (valN kv n) ∧ (n, valN kv n) ∈ kv := by
  obtain ⟨p, hp, rfl⟩ := List.mem_map.mp h
  have e : valV (kvK kv) (Sum.inr p.1) = some p.2 := val_nodup (kvs := kvK kv) (kv_nd nd) (Sum.inr p.1, p.2) (List.mem_map.mpr ⟨p, hp, rfl⟩)
  have e2 : valN kv p.1 = p.2 := by
    unfold valN
    rw [e]
    rfl
  rw [e2]
  exact ⟨e, hp⟩
/-- names that are texts of small signs -/
def NmOk (s : Str) : Prop := s.length ≤ 100 ∧ Low s
theorem NmOk.thg {H : Hp} {s : Str} (h : NmOk s) : Thg H (.str s) := .str s (by have := h.1; omega) fun c hc => h.2 c hc
structure Dn (H : Hp) (t : Addr) (kv : List (Str × V)) : Prop where
  at_ : H t = some (.dK (kvK kv))
  nd : (kv.map (·.1)).Nodup
  nm : ∀ p ∈ kv, NmOk p.1
  len : kv.length < 64
theorem Dn.get {H : Hp} {t : Addr} {kv : List (Str × V)} (h : Dn H t kv) {n : Str} (hn : n ∈ kv.map (·.1)) : DGet H t (.str n) (some (valN kv n)) := by
  have g := DGet.k (k := Sum.inr n) h.at_
  rw [(valN_mem hn h.nd).1] at g
  exact g
noncomputable def sortN (ns : List Str) : List Str := Classical.epsilon fun ys => ys.Perm ns ∧ PyProof.Rows.sortedS ys = true
theorem sortN_eq {ns ys : List Str} (p : ys.Perm ns) (s : PyProof.Rows.sortedS ys = true) : sortN ns = ys := by
  have h := Classical.epsilon_spec (p := fun ys : List Str => ys.Perm ns ∧ PyProof.Rows.sortedS ys = true) ⟨ys, p, s⟩
  exact sorted_uniq (h.1.trans p.symm) h.2 s
theorem find_at {α : Type} {p : α → Bool} {x : α} : ∀ {ys : List α} {i : Nat}, (∀ y ∈ ys.take i, p y = false) → ys[i]? = some x → p x = true → ys.find? p = some x
  | [], _, _, h, _ => by simp at h
  | y :: ys, 0, _, h, e => by
    cases h
    exact List.find?_cons_of_pos e
  | y :: ys, i + 1, h, hx, e => by
    rw [List.find?_cons_of_neg (by rw [h y (by simp)]; decide)]
    exact find_at (i := i) (fun z hz => h z (by simp [hz])) (by simpa using hx) e
theorem find_no {α : Type} {p : α → Bool} {ys : List α} (h : ∀ y ∈ ys, p y = false) : ys.find? p = none := List.find?_eq_none.mpr fun y hy => by rw [h y hy]; decide
theorem take_snoc {α : Type} {ys : List α} {i : Nat} {x : α} (h : ys[i]? = some x) : ys.take (i + 1) = ys.take i ++ [x] := by
  rw [List.take_add_one, h]
  rfl
/-- how an error of two fields goes out -/
def Er2 (C : Addr) (f g : Str) (u v : V) (H : Hp) (E : XK) : Prop := ∀ dx H', H dx = none → H' dx = some (.xd [(g, v), (f, u)]) → Same H H' → E (.ref C) (some dx) H'
def spI2 (C : Addr) (f g : Str) : Sp := fun vs H Q _ => ∃ (x : Addr) (u v : V), vs = [.ref x, u, v] ∧ H x = some (exo x C none) ∧ ∀ dx H', H dx = none → dx ≠ x → H' x = some (exo x C (some dx)) → H' dx = some (exd dx [(g, v), (f, u)]) → (∀ b o, b ≠ x → b ≠ dx → H b = some o → H' b = some o) → Q .non H'
theorem er2_raise {C : Addr} {f g : Str} {u v : V} {H : Hp} {E : XK} (k : Er2 C f g u v H E) : ([u, v] : List V).length ≤ 1000 ∧ ∀ x, H x = none → spI2 C f g (.ref x :: ([u, v] ++ [])) (upd H x (exo x C none))
    (fun z H2 => z = .non ∧ ∃ (dd : Addr) (fs : List (Str × V)), H2 x = some (exo x C (some dd)) ∧ H2 dd = some (exd dd fs) ∧ H dd = none ∧ E (.ref C) (some dd) (upd (del H2 x) dd (.xd fs))) (fun _ _ _ => False) := by
  refine ⟨by show 2 ≤ 1000; decide, fun x hx => ⟨x, u, v, rfl, upd_same, fun dx H' hdx ne e1 e2 keep => ⟨rfl, dx, _, e1, e2, ?_, ?_⟩⟩⟩
  · rw [upd_ne ne] at hdx
    exact hdx
  · rw [upd_ne ne] at hdx
    refine k dx _ hdx upd_same fun b o e => ?_
    have nb : b ≠ x := ne_of_none e hx
    have nd : b ≠ dx := ne_of_none e hdx
    rw [upd_ne nd, del_ne nb]
    exact keep b o nb nd (by rw [upd_ne nb]; exact e)
theorem Thg.tyT {K : PySem.W.Frag} {H : Hp} {v : V} (h : Thg H v) : ∃ n, TyX K H v (.type n) ∧ kitB n "tuple" = some (tupOf H v).isSome := by
  cases h with
  | int i => exact ⟨_, .base (.int _), show kitB "int" "tuple" = some false by decide +kernel⟩
  | bl b => exact ⟨_, .base (.bl _), show kitB "bool" "tuple" = some false by decide +kernel⟩
  | non => exact ⟨_, .base .non, show kitB "NoneType" "tuple" = some false by decide +kernel⟩
  | str s => exact ⟨_, .base (.str _), show kitB "str" "tuple" = some false by decide +kernel⟩
  | lst e => exact ⟨_, .base (.lst e), by rw [tupOf_lst e]; exact show kitB "list" "tuple" = some false by decide +kernel⟩
  | tup e => exact ⟨_, .base (.tup e), by rw [tupOf_tup e]; exact show kitB "tuple" "tuple" = some true by decide +kernel⟩
theorem tupOf_some {H : Hp} {v : V} {xs : List V} (h : tupOf H v = some xs) : ∃ a, v = .ref a ∧ H a = some (.tup xs) := by
  cases v with
  | ref a =>
    refine ⟨a, rfl, ?_⟩
    have h' : (match H a with | some (.tup xs) => some xs | _ => none) = some xs := h
    cases e : H a with
    | none => rw [e] at h'; cases h'
    | some o =>
      rw [e] at h'
      cases o <;> first | (cases h'; rfl) | cases h'
  | _ => cases h
/-! ### things as data: where they stand, and what they tell; no list or tuple of theirs stands at a place of C -/
theorem paired_imp {α β : Type} {F G : α → β → Prop} (h : ∀ a b, F a b → G a b) : ∀ {xs : List α} {ys : List β}, Paired F xs ys → Paired G xs ys
  | _, _, .nil => .nil
  | _, _, .cons r t => .cons (h _ _ r) (paired_imp h t)
theorem paired_app {α β : Type} {F : α → β → Prop} : ∀ {xs : List α} {ys : List β} {us : List α} {ws : List β}, Paired F xs ys → Paired F us ws → Paired F (xs ++ us) (ys ++ ws)
  | _, _, _, _, .nil, g => g
  | _, _, _, _, .cons r t, g => .cons r (paired_app t g)
theorem paired_take {α β : Type} {F : α → β → Prop} : ∀ {xs : List α} {ys : List β} (n : Nat), Paired F xs ys → Paired F (xs.take n) (ys.take n)
  | _, _, 0, _ => .nil
  | _, _, _ + 1, .nil => .nil
  | _, _, n + 1, .cons r t => .cons r (paired_take n t)
theorem paired_drop {α β : Type} {F : α → β → Prop} : ∀ {xs : List α} {ys : List β} (n : Nat), Paired F xs ys → Paired F (xs.drop n) (ys.drop n)
  | _, _, 0, h => h
  | _, _, _ + 1, .nil => .nil
  | _, _, n + 1, .cons r t => paired_drop n t
theorem paired_at {α β : Type} {F : α → β → Prop} : ∀ {xs : List α} {ys : List β} {i : Nat} {x : α}, Paired F xs ys → xs[i]? = some x → ∃ y, ys[i]? = some y ∧ F x y
  | _, _, 0, _, .cons r t, h => by
    cases h
    exact ⟨_, rfl, r⟩
  | _, _, i + 1, _, .cons r t, h => paired_at (i := i) t h
theorem paired_any {α β : Type} {F : α → β → Prop} : ∀ {xs : List α} {ys : List β} {x : α}, Paired F xs ys → x ∈ xs → ∃ y ∈ ys, F x y
  | _, _, _, .cons r t, h => by
    rcases List.mem_cons.mp h with rfl | h
    · exact ⟨_, List.mem_cons_self, r⟩
    · obtain ⟨y, hy, f⟩ := paired_any t h
      exact ⟨y, List.mem_cons_of_mem _ hy, f⟩
inductive Sc : V → PyData → Prop
  | non : Sc .non .none
  | bl (b : Bool) : Sc (.bl b) (.bool b)
  | int (i : Int) : Sc (.int i) (.int i)
  | str (s : Str) (h : s.length ≤ 1000) (hc : ∀ c ∈ s.cps.toList, c < 128) : Sc (.str s) (.str s)
def DA (C : Addr → Prop) (H : Hp) : Nat → V → PyData → Prop
  | 0, v, d => Sc v d
  | n + 1, v, d => Sc v d ∨ (∃ a xs ds, v = .ref a ∧ d = .tuple ds ∧ ¬ C a ∧ H a = some (.tup xs) ∧ xs.length ≤ 5000 ∧ Paired (DA C H n) xs ds) ∨ (∃ a xs ds, v = .ref a ∧ d = .list ds ∧ ¬ C a ∧ H a = some (.lst xs) ∧ xs.length ≤ 5000 ∧ Paired (DA C H n) xs ds)
section
variable {C C' : Addr → Prop} {H H' : Hp} {n m : Nat} {v : V} {d : PyData}
theorem Sc.da (h : Sc v d) : DA C H n v d := by
  cases n with
  | zero => exact h
  | succ n => exact .inl h
theorem DA.tup {a : Addr} {xs : List V} {ds : List PyData} (hc : ¬ C a) (e : H a = some (.tup xs)) (l : xs.length ≤ 5000) (p : Paired (DA C H n) xs ds) : DA C H (n + 1) (.ref a) (.tuple ds) := .inr (.inl ⟨a, xs, ds, rfl, rfl, hc, e, l, p⟩)
theorem DA.lst {a : Addr} {xs : List V} {ds : List PyData} (hc : ¬ C a) (e : H a = some (.lst xs)) (l : xs.length ≤ 5000) (p : Paired (DA C H n) xs ds) : DA C H (n + 1) (.ref a) (.list ds) := .inr (.inr ⟨a, xs, ds, rfl, rfl, hc, e, l, p⟩)
theorem DA.keep (k : ∀ b o, ¬ C b → H b = some o → H' b = some o) : ∀ {n : Nat} {v : V} {d : PyData}, DA C H n v d → DA C H' n v d
  | 0, _, _, h => h
  | n + 1, _, _, h => by
    rcases h with h | ⟨a, xs, ds, rfl, rfl, hc, e, l, p⟩ | ⟨a, xs, ds, rfl, rfl, hc, e, l, p⟩
    · exact .inl h
    · exact .tup hc (k _ _ hc e) l (paired_imp (fun _ _ => DA.keep k) p)
    · exact .lst hc (k _ _ hc e) l (paired_imp (fun _ _ => DA.keep k) p)
theorem DA.keep2 (k : ∀ b o, ¬ C b → (∃ xs, o = HO.tup xs ∨ o = HO.lst xs) → H b = some o → H' b = some o) : ∀ {n : Nat} {v : V} {d : PyData}, DA C H n v d → DA C H' n v d
  | 0, _, _, h => h
  | n + 1, _, _, h => by
    rcases h with h | ⟨a, xs, ds, rfl, rfl, hc, e, l, p⟩ | ⟨a, xs, ds, rfl, rfl, hc, e, l, p⟩
    · exact .inl h
    · exact .tup hc (k _ _ hc ⟨_, .inl rfl⟩ e) l (paired_imp (fun _ _ => DA.keep2 k) p)
    · exact .lst hc (k _ _ hc ⟨_, .inr rfl⟩ e) l (paired_imp (fun _ _ => DA.keep2 k) p)
theorem DA.same (h : DA C H n v d) (s : Same H H') : DA C H' n v d := h.keep fun _ _ _ e => s _ _ e
theorem DA.weak (k : ∀ b, C' b → C b) : ∀ {n : Nat} {v : V} {d : PyData}, DA C H n v d → DA C' H n v d
  | 0, _, _, h => h
  | n + 1, _, _, h => by
    rcases h with h | ⟨a, xs, ds, rfl, rfl, hc, e, l, p⟩ | ⟨a, xs, ds, rfl, rfl, hc, e, l, p⟩
    · exact .inl h
    · exact .tup (fun x => hc (k _ x)) e l (paired_imp (fun _ _ => DA.weak k) p)
    · exact .lst (fun x => hc (k _ x)) e l (paired_imp (fun _ _ => DA.weak k) p)
theorem DA.fresh {D : Addr} (hD : H D = none) : ∀ {n : Nat} {v : V} {d : PyData}, DA C H n v d → DA (fun x => C x ∨ x = D) H n v d
  | 0, _, _, h => h
  | n + 1, _, _, h => by
    have ne : ∀ {a : Addr} {o : HO}, ¬ C a → H a = some o → ¬ (C a ∨ a = D) := fun hc e x => x.elim hc fun e' => by rw [e', hD] at e; cases e
    rcases h with h | ⟨a, xs, ds, rfl, rfl, hc, e, l, p⟩ | ⟨a, xs, ds, rfl, rfl, hc, e, l, p⟩
    · exact .inl h
    · exact .tup (ne hc e) e l (paired_imp (fun _ _ => DA.fresh hD) p)
    · exact .lst (ne hc e) e l (paired_imp (fun _ _ => DA.fresh hD) p)
theorem DA.up1 : ∀ {n : Nat} {v : V} {d : PyData}, DA C H n v d → DA C H (n + 1) v d
  | 0, _, _, h => .inl h
  | n + 1, _, _, h => by
    rcases h with h | ⟨a, xs, ds, rfl, rfl, hc, e, l, p⟩ | ⟨a, xs, ds, rfl, rfl, hc, e, l, p⟩
    · exact .inl h
    · exact .tup hc e l (paired_imp (fun _ _ => DA.up1) p)
    · exact .lst hc e l (paired_imp (fun _ _ => DA.up1) p)
theorem DA.up (h : DA C H n v d) (l : n ≤ m) : DA C H m v d := by
  induction l with
  | refl => exact h
  | step _ ih => exact ih.up1
/-- a thing told as a tuple is one -/
theorem DA.asTup {ds : List PyData} (h : DA C H n v (.tuple ds)) : ∃ a xs k, n = k + 1 ∧ v = .ref a ∧ ¬ C a ∧ H a = some (.tup xs) ∧ xs.length ≤ 5000 ∧ Paired (DA C H k) xs ds := by
  cases n with
  | zero => cases h
  | succ n =>
    rcases h with h | ⟨a, xs, ds, rfl, e', hc, e, l, p⟩ | ⟨a, xs, ds, rfl, e', hc, e, l, p⟩
    · cases h
    · cases e'
      exact ⟨a, xs, n, rfl, rfl, hc, e, l, p⟩
    · cases e'
theorem DA.asLst {ds : List PyData} (h : DA C H n v (.list ds)) : ∃ a xs k, n = k + 1 ∧ v = .ref a ∧ ¬ C a ∧ H a = some (.lst xs) ∧ xs.length ≤ 5000 ∧ Paired (DA C H k) xs ds := by
  cases n with
  | zero => cases h
  | succ n =>
    rcases h with h | ⟨a, xs, ds, rfl, e', hc, e, l, p⟩ | ⟨a, xs, ds, rfl, e', hc, e, l, p⟩
    · cases h
    · cases e'
    · cases e'
      exact ⟨a, xs, n, rfl, rfl, hc, e, l, p⟩
theorem DA.asInt {i : Int} (h : DA C H n v (.int i)) : v = .int i := by
  cases n with
  | zero => cases h; rfl
  | succ n =>
    rcases h with h | ⟨a, xs, ds, rfl, e', _⟩ | ⟨a, xs, ds, rfl, e', _⟩
    · cases h; rfl
    · cases e'
    · cases e'
theorem DA.asStr {s : Str} (h : DA C H n v (.str s)) : v = .str s ∧ s.length ≤ 1000 ∧ ∀ c ∈ s.cps.toList, c < 128 := by
  cases n with
  | zero => cases h with | str _ h hc => exact ⟨rfl, h, hc⟩
  | succ n =>
    rcases h with h | ⟨a, xs, ds, rfl, e', _⟩ | ⟨a, xs, ds, rfl, e', _⟩
    · cases h with | str _ h hc => exact ⟨rfl, h, hc⟩
    · cases e'
    · cases e'
theorem dpall_of {K : PySem.W.Frag} {F : V → PyData → Prop} (k : ∀ v d, F v d → Dp K H v d) : ∀ {xs : List V} {ds : List PyData}, Paired F xs ds → DpAll K H xs ds
  | _, _, .nil => .nil
  | _, _, .cons r t => .cons (k _ _ r) (dpall_of k t)
theorem Sc.dp {K : PySem.W.Frag} (h : Sc v d) : Dp K H v d := by
  cases h with
  | non => exact .non
  | bl b => exact .bl b
  | int i => exact .int i
  | str s _ _ => exact .str s
theorem DA.dp {K : PySem.W.Frag} : ∀ {n : Nat} {v : V} {d : PyData}, DA C H n v d → Dp K H v d
  | 0, _, _, h => Sc.dp h
  | n + 1, _, _, h => by
    rcases h with h | ⟨a, xs, ds, rfl, rfl, hc, e, l, p⟩ | ⟨a, xs, ds, rfl, rfl, hc, e, l, p⟩
    · exact h.dp
    · exact .tup (.of e) (dpall_of (fun _ _ => DA.dp) p)
    · exact .lst (.of e) (dpall_of (fun _ _ => DA.dp) p)
theorem lays_of {F : V → PyData → Prop} {n : Nat} (k : ∀ v d, F v d → d.canLay0 = true ∧ d.depth ≤ n) : ∀ {xs : List V} {ds : List PyData}, Paired F xs ds → PyData.canLayAll0 ds = true ∧ PyData.depthAll ds ≤ n
  | _, _, .nil => ⟨rfl, Nat.zero_le _⟩
  | _, _, .cons r t => by
    obtain ⟨h1, h2⟩ := k _ _ r
    obtain ⟨h3, h4⟩ := lays_of k t
    exact ⟨by simp only [PyData.canLayAll0, h1, h3, Bool.and_self], by simp only [PyData.depthAll]; omega⟩
theorem Sc.lay (h : Sc v d) : d.canLay0 = true ∧ d.depth = 0 := by
  cases h with
  | non => exact ⟨rfl, rfl⟩
  | bl b => exact ⟨rfl, rfl⟩
  | int i => exact ⟨rfl, rfl⟩
  | str s _ hc => exact ⟨by simp only [PyData.canLay0, low_ok hc], rfl⟩
theorem DA.lay : ∀ {n : Nat} {v : V} {d : PyData}, DA C H n v d → d.canLay0 = true ∧ d.depth ≤ n
  | 0, _, _, h => ⟨(Sc.lay h).1, by rw [(Sc.lay h).2]; exact Nat.le_refl _⟩
  | n + 1, _, _, h => by
    rcases h with h | ⟨a, xs, ds, rfl, rfl, hc, e, l, p⟩ | ⟨a, xs, ds, rfl, rfl, hc, e, l, p⟩
    · exact ⟨h.lay.1, by rw [h.lay.2]; exact Nat.zero_le _⟩
    · obtain ⟨h1, h2⟩ := lays_of (fun _ _ => DA.lay) p
      exact ⟨by simp only [PyData.canLay0, h1], by simp only [PyData.depth]; omega⟩
    · obtain ⟨h1, h2⟩ := lays_of (fun _ _ => DA.lay) p
      exact ⟨by simp only [PyData.canLay0, h1], by simp only [PyData.depth]; omega⟩
theorem DA.shaped (h : DA C H n v d) (l : n ≤ 60) : SeqAt.shaped d = true := by
  unfold SeqAt.shaped
  rw [h.lay.1, Bool.true_and]
  exact decide_eq_true (by have := h.lay.2; omega)
theorem shaped_list {F : V → PyData → Prop} {xs : List V} {ds : List PyData} (p : Paired F xs ds) (k : ∀ v d, F v d → d.canLay0 = true ∧ d.depth ≤ 60) : SeqAt.shaped (.list ds) = true := by
  obtain ⟨h1, h2⟩ := lays_of k p
  unfold SeqAt.shaped
  simp only [PyData.canLay0, h1, Bool.true_and, PyData.depth]
  exact decide_eq_true (by omega)
theorem DA.refl (h : DA C H n v d) : PyData.eqv d d = true := PySem.SeqAt.eqv_refl _ h.lay.1
def isTup : PyData → Bool
  | .tuple _ => true
  | _ => false
def isLst : PyData → Bool
  | .list _ => true
  | _ => false
def isStrD : PyData → Bool
  | .str _ => true
  | _ => false
def isBoolD : PyData → Bool
  | .bool _ => true
  | _ => false
def isIntD : PyData → Bool
  | .int _ => true
  | .bool _ => true
  | _ => false
theorem DA.thg (h : DA C H n v d) : Thg H v := by
  cases n with
  | zero =>
    cases h with
    | non => exact .non
    | bl b => exact .bl b
    | int i => exact .int i
    | str s h hc => exact .str s h hc
  | succ n =>
    rcases h with h | ⟨a, xs, ds, rfl, rfl, hc, e, l, p⟩ | ⟨a, xs, ds, rfl, rfl, hc, e, l, p⟩
    · cases h with
      | non => exact .non
      | bl b => exact .bl b
      | int i => exact .int i
      | str s h hc => exact .str s h hc
    · exact .tup e
    · exact .lst e
theorem DA.ty {K : PySem.W.Frag} (h : DA C H n v d) : ∃ nm, TyX K H v (.type nm) ∧ kitB nm "tuple" = some (isTup d) ∧ kitB nm "list" = some (isLst d) ∧ kitB nm "str" = some (isStrD d) ∧ kitB nm "int" = some (isIntD d) ∧ kitB nm "bool" = some (isBoolD d) := by
  have sc : Sc v d → ∃ nm, TyX K H v (.type nm) ∧ kitB nm "tuple" = some (isTup d) ∧ kitB nm "list" = some (isLst d) ∧ kitB nm "str" = some (isStrD d) ∧ kitB nm "int" = some (isIntD d) ∧ kitB nm "bool" = some (isBoolD d) := fun h => by
    cases h with
    | non => exact ⟨"NoneType", .base .non, by decide +kernel, by decide +kernel, by decide +kernel, by decide +kernel, by decide +kernel⟩
    | bl b => exact ⟨"bool", .base (.bl _), by show _ = some false; decide +kernel, by show _ = some false; decide +kernel, by show _ = some false; decide +kernel, by show _ = some true; decide +kernel, by show _ = some true; decide +kernel⟩
    | int i => exact ⟨"int", .base (.int _), by show _ = some false; decide +kernel, by show _ = some false; decide +kernel, by show _ = some false; decide +kernel, by show _ = some true; decide +kernel, by show _ = some false; decide +kernel⟩
    | str s _ _ => exact ⟨"str", .base (.str _), by show _ = some false; decide +kernel, by show _ = some false; decide +kernel, by show _ = some true; decide +kernel, by show _ = some false; decide +kernel, by show _ = some false; decide +kernel⟩
  cases n with
  | zero => exact sc h
  | succ n =>
    rcases h with h | ⟨a, xs, ds, rfl, rfl, hc, e, l, p⟩ | ⟨a, xs, ds, rfl, rfl, hc, e, l, p⟩
    · exact sc h
    · exact ⟨"tuple", .base (.tup e), by show _ = some true; decide +kernel, by show _ = some false; decide +kernel, by show _ = some false; decide +kernel, by show _ = some false; decide +kernel, by show _ = some false; decide +kernel⟩
    · exact ⟨"list", .base (.lst e), by show _ = some false; decide +kernel, by show _ = some true; decide +kernel, by show _ = some false; decide +kernel, by show _ = some false; decide +kernel, by show _ = some false; decide +kernel⟩
/-- values, variables, terms, as data -/
def valD : PyData → Bool
  | .int i => decide (-999999999999999999999999999999 ≤ i ∧ i ≤ 999999999999999999999999999999)
  | .str s => wordB s
  | _ => false
def varD : PyData → Bool
  | .tuple [.int i] => decide (0 ≤ i ∧ i ≤ 999999999999999999999999999999)
  | _ => false
def termD (d : PyData) : Bool := valD d || varD d
theorem DA.val (h : DA C H n v d) : valV' v = valD d := by
  have sc : Sc v d → valV' v = valD d := fun h => by cases h <;> rfl
  cases n with
  | zero => exact sc h
  | succ n =>
    rcases h with h | ⟨a, xs, ds, rfl, rfl, _⟩ | ⟨a, xs, ds, rfl, rfl, _⟩
    · exact sc h
    · rfl
    · rfl
theorem varD_len : ∀ {ds : List PyData}, ds.length ≠ 1 → varD (.tuple ds) = false
  | [], _ => rfl
  | [_], h => absurd rfl h
  | x :: y :: r, _ => by cases x <;> rfl
/-- the variables of some terms -/
def varI : PyData → Option Int
  | .tuple [.int i] => some i
  | _ => none
theorem varI_mem {ds : List PyData} {i : Int} : i ∈ ds.filterMap varI ↔ .tuple [.int i] ∈ ds := by
  rw [List.mem_filterMap]
  constructor
  · rintro ⟨d, hd, e⟩
    unfold varI at e
    split at e
    · cases e
      exact hd
    · cases e
  · exact fun h => ⟨_, h, rfl⟩
theorem term_tup {ds : List PyData} (h : termD (.tuple ds) = true) : ∃ i, ds = [.int i] := by
  have h : varD (.tuple ds) = true := h
  unfold varD at h
  split at h
  · rename_i e
    cases e
    exact ⟨_, rfl⟩
  · cases h
def plainD (d : PyData) : Bool := isIntD d && !isBoolD d
theorem DA.plain (h : DA C H n v d) : plainV v = plainD d := by
  have sc : Sc v d → plainV v = plainD d := fun h => by cases h <;> rfl
  cases n with
  | zero => exact sc h
  | succ n =>
    rcases h with h | ⟨a, xs, ds, rfl, rfl, _⟩ | ⟨a, xs, ds, rfl, rfl, _⟩
    · exact sc h
    · rfl
    · rfl
end
/-! ### what a part lacks -/
def atomD : PyData → Bool
  | .tuple [_, .tuple _] => true
  | _ => false
theorem atomD_len : ∀ {ds : List PyData}, ds.length ≠ 2 → atomD (.tuple ds) = false
  | [], _ => rfl
  | [_], _ => rfl
  | [_, _], h => absurd rfl h
  | x :: y :: z :: r, _ => by cases y <;> rfl
def formD : PyData → Bool
  | .tuple [.tuple _, .list as] => decide (as.length ≤ 5) && as.all atomD
  | _ => false
theorem formD_len : ∀ {ds : List PyData}, ds.length ≠ 2 → formD (.tuple ds) = false
  | [], _ => rfl
  | [x], _ => by cases x <;> rfl
  | [_, _], h => absurd rfl h
  | x :: y :: z :: r, _ => by cases x <;> first | rfl | (cases y <;> rfl)
def headOf : PyData → List PyData
  | .tuple [.tuple hs, _] => hs
  | _ => []
def atomsOf : PyData → List PyData
  | .tuple [_, .list as] => as
  | _ => []
def atName : PyData → PyData
  | .tuple [x, _] => x
  | _ => .none
def atTerms : PyData → List PyData
  | .tuple [_, .tuple ts] => ts
  | _ => []
def nameD (ts : List (Str × Int)) : PyData → Bool
  | .str s => (valV (tabK ts) (Sum.inr s)).isSome
  | _ => false
def wdD (ts : List (Str × Int)) : PyData → Int
  | .str s => widthAt ts s
  | _ => 0
def termsD (m : Int) (ds : List PyData) : Bool := decide ((ds.length : Int) = m) && ds.all termD
def standD (d : PyData) : List PyData := (atomsOf d).flatMap atTerms
def safeD (d : PyData) : Bool := (headOf d).all fun x => !isTup x || (standD d).any fun z => PyData.eqv z x
def faultD (ts : List (Str × Int)) (w : Int) (d : PyData) : Str :=
  if formD d = false then "form" else if termsD w (headOf d) = false then "head" else if ((atomsOf d).all fun x => nameD ts (atName x)) = false then "table" else
  if ((atomsOf d).all fun x => termsD (wdD ts (atName x)) (atTerms x)) = false then "terms" else if safeD d = false then "unsafe" else ""
def firstD (ts : List (Str × Int)) (w : Int) : List PyData → Nat → Option (Str × Nat)
  | [], _ => none
  | d :: r, i => if faultD ts w d = "" then firstD ts w r (i + 1) else some (faultD ts w d, i)
def widthD : PyData → Option Int
  | .int i => if 0 ≤ i ∧ i ≤ 12 then some i else none
  | _ => none
def dueD (ts : List (Str × Int)) (w p : PyData) : Option (Str × Int) := match widthD w with
  | none => some ("width", -1)
  | some wi => match p with
    | .list ds => if ds.length ≤ 4000 then (firstD ts wi ds 0).map fun z => (z.1, (z.2 : Int)) else some ("parts", -1)
    | _ => some ("parts", -1)
theorem val_isn {ts : List (Str × Int)} {n : Str} (h : (valV (tabK ts) (Sum.inr n)).isSome = false) : n ∉ ts.map (·.1) := fun hm => by
  obtain ⟨b, hb, e⟩ := List.mem_map.mp hm
  have : ∀ {kvs : List (Key × V)} {k : Key}, k ∈ kvs.map (·.1) → (valV kvs k).isSome = true := by
    intro kvs
    induction kvs with
    | nil => intro k h; cases h
    | cons p r ih =>
      intro k h
      by_cases e : p.1 = k
      · unfold valV
        simp [List.find?, e]
      · rw [valV_neg e]
        rw [List.map_cons] at h
        rcases List.mem_cons.mp h with h | h
        · exact absurd h.symm e
        · exact ih h
  rw [this (by rw [keys_tab]; exact List.mem_map.mpr ⟨n, hm, rfl⟩)] at h
  cases h
theorem val_isy {ts : List (Str × Int)} {n : Str} (h : (valV (tabK ts) (Sum.inr n)).isSome = true) : n ∈ ts.map (·.1) := by
  by_cases hm : n ∈ ts.map (·.1)
  · exact hm
  · rw [valV_no (by rw [keys_tab]; exact inr_no hm)] at h
    cases h
theorem ifT {A B : Prop} (h : A) : if true = true then A else B := by rw [if_pos rfl]; exact h
theorem ifF {A B : Prop} (h : B) : if false = true then A else B := by rw [if_neg (by decide)]; exact h
/-! ### a cell of draws: a list of two ints that every draw changes -/
def Cell (H : Hp) (p : Addr) : Prop := ∃ n c : Int, H p = some (.lst [.int n, .int c])
def Chs (p : Addr) (H H' : Hp) : Prop := Cell H' p ∧ Oth p H H'
theorem Chs.refl {p : Addr} {H : Hp} (h : Cell H p) : Chs p H H := ⟨h, Oth.refl p H⟩
theorem Chs.trans {p : Addr} {H H1 H2 : Hp} (x : Chs p H H1) (y : Chs p H1 H2) : Chs p H H2 := ⟨y.1, fun b o n e => y.2 b o n (x.2 b o n e)⟩
theorem Cell.same {p : Addr} {H H' : Hp} (h : Cell H p) (s : Same H H') : Cell H' p := by
  obtain ⟨n, c, e⟩ := h
  exact ⟨n, c, s _ _ e⟩
theorem Cell.ne {p b : Addr} {H : Hp} (h : Cell H p) (e : H b = none) : b ≠ p := by
  obtain ⟨n, c, e'⟩ := h
  exact (ne_of_none e' e).symm
theorem Chs.sm {p : Addr} {H H1 H2 : Hp} (x : Chs p H H1) (s : Same H1 H2) : Chs p H H2 := ⟨x.1.same s, fun b o n e => s _ _ (x.2 b o n e)⟩
theorem Chs.mut {p b : Addr} {o : HO} {H H1 : Hp} (x : Chs p H H1) (h : H b = none) (n : b ≠ p) : Chs p H (upd H1 b o) := by
  obtain ⟨⟨i, j, e⟩, k⟩ := x
  exact ⟨⟨i, j, by rw [upd_ne n.symm]; exact e⟩, fun c u nc q => by
    rw [upd_ne (ne_of_none q h)]
    exact k c u nc q⟩
theorem Chs.free {p b : Addr} {H H1 : Hp} (x : Chs p H H1) (h0 : Cell H p) (h : H1 b = none) : H b = none := by
  cases e : H b with
  | none => rfl
  | some o =>
    by_cases n : b = p
    · subst n
      obtain ⟨⟨i, j, e'⟩, _⟩ := x
      rw [e'] at h
      cases h
    · rw [x.2 b o n e] at h
      cases h
theorem Chs.at {p b : Addr} {H H' : Hp} {o : HO} (c : Chs p H H') (n : b ≠ p) (e : H b = some o) : H' b = some o := c.2 b o n e
theorem cell_ne {p b : Addr} {H : Hp} {o : HO} (h : Cell H p) (e : H b = some o) (x : ∀ xs, o ≠ .lst xs) : b ≠ p := by
  obtain ⟨n, c, e'⟩ := h
  exact ne_of e e' (x _)
theorem DA.chs {p : Addr} {C : Addr → Prop} {H H' : Hp} {n : Nat} {v : V} {d : PyData} (h : DA C H n v d) (c : Chs p H H') (k : C p) : DA C H' n v d := h.keep fun b o nb e => c.2 b o (fun e' => nb (e' ▸ k)) e
/-- all places of C are taken -/
def Occ (C : Addr → Prop) (H : Hp) : Prop := ∀ a, C a → ∃ o, H a = some o
theorem Occ.same {C : Addr → Prop} {H H' : Hp} (h : Occ C H) (s : Same H H') : Occ C H' := fun a ha => let ⟨o, e⟩ := h a ha; ⟨o, s _ _ e⟩
theorem Occ.chs {C : Addr → Prop} {H H' : Hp} {p : Addr} (h : Occ C H) (c : Chs p H H') : Occ C H' := fun a ha => by
  by_cases e : a = p
  · subst e
    obtain ⟨⟨i, j, e⟩, _⟩ := c
    exact ⟨_, e⟩
  · obtain ⟨o, eo⟩ := h a ha
    exact ⟨o, c.2 a o e eo⟩
theorem Occ.new {C : Addr → Prop} {H : Hp} {b : Addr} (h : Occ C H) (e : H b = none) : ¬ C b := fun hc => by
  obtain ⟨o, eo⟩ := h b hc
  rw [e] at eo
  cases eo
theorem str_cps {s t : Str} (h : s.cps.toList = t.cps.toList) : s = t := by
  cases s
  cases t
  exact congrArg Str.mk (Array.toList_inj.mp h)
theorem join_sgn : ∀ cs : List Nat, Str.join "" (cs.map sgn) = ⟨cs.toArray⟩
  | [] => rfl
  | [c] => rfl
  | c :: e :: r => by
    have ih := join_sgn (e :: r)
    show sgn c ++ "" ++ Str.join "" ((e :: r).map sgn) = _
    rw [ih]
    refine str_cps ?_
    rw [cps_app, cps_app]
    show ([c] ++ ("" : Str).cps.toList) ++ (e :: r).toArray.toList = (c :: e :: r).toArray.toList
    rw [show ("" : Str).cps.toList = [] by decide +kernel]
    simp
section
variable {P : Program} {w : World} {K : PySem.W.Frag} {mg : Str → Option Value} {base : Heap} {a : Nat → Addr} {d : Nat → FuncData}
def spState (K : PySem.W.Frag) : Sp := fun vs H Q _ => ∃ (p : Addr) (ns : List Int) (k : Int), vs = [.ref p, .int k] ∧ SqL K H p (ns.map V.int) ∧ ns.length ≤ 63 ∧ 0 ≤ k ∧ k ≤ 1000 ∧ ∀ q H', H q = none → Cell H' q → Same H H' → Q (.ref q) H'
theorem ok_state (T : Txt K mg a d) : FnOk P w K mg base CX0 1 (a 73) (d 73) ["_law_script", "_law_k"] (spState K) := by
  refine T.F73.ok sc__law_state (fun vs H Q E h => ?_) (fun cdv A outer s H vs Q E hr h => ?_)
  · obtain ⟨p, ns, k, rfl, _⟩ := h
    rfl
  · obtain ⟨p, ns, k, rfl, hS, hl, k0, k1, q⟩ := h
    refine ⟨_, (pss_one (ps_ret (pe_lst (pa_cons (pe_ifExp (pt_cmpR op_lt (pv 1) (pe_callB (id := "len")  call_len_seq (by rfl) T.z_len (by decide +kernel) (pa_cons (pv 0) pa_nil)) (nomark _)) (pe_ix ix_list (pv 0) (pv 1) (fun _ _ => rfl)) pe_int) (pa_cons (pe_op op_mul pe_int (pv 1)) pa_nil))))), ?_⟩
    have fin : ∀ z : Int, ∀ r, H r = none → Q (.ref r) (upd H r (.lst [.int z, .int (101 * k)])) := fun z r hr => q r _ hr ⟨_, _, upd_same⟩ (same_upd hr)
    refine ⟨_, rfl, _, rfl, _, _, rfl, .inl hS, _, _, rfl, rfl, _, rfl, ite_d (fun h1 => ?_) (fun h1 => ?_)⟩
    · have h1 : k < (ns.map V.int).length := h1
      rw [List.length_map] at h1
      have h2 : k.toNat < ns.length := by omega
      exact ⟨_, rfl, _, rfl, _, _, _, _, rfl, rfl, hS, at_g (j := k.toNat) (by omega) (by rw [List.getElem?_map, List.getElem?_eq_getElem h2]; rfl), _, rfl, _, _, rfl, rfl, .inl ⟨by omega, by omega⟩, by show 2 ≤ sizeLine; decide, fun r hr => fin _ r hr⟩
    · exact ⟨_, rfl, _, _, rfl, rfl, .inl ⟨by omega, by omega⟩, by show 2 ≤ sizeLine; decide, fun r hr => fin _ r hr⟩
def spPick2 : Sp := fun vs H Q _ => ∃ (p : Addr) (m : Int), vs = [.ref p, .int m] ∧ Cell H p ∧ 0 < m ∧ m.natAbs < 2 ^ 200 ∧ ∀ (r : Int) (H' : Hp), 0 ≤ r → r < m → Chs p H H' → Q (.int r) H'
theorem ok_pick2 (T : Txt K mg a d) : FnOk P w K mg base CX0 1 (a 74) (d 74) ["_law_state_here", "_law_many"] spPick2 := by
  refine T.F74.ok sc__law_pick (fun vs H Q E h => ?_) (fun cdv A outer s H vs Q E hr h => ?_)
  · obtain ⟨p, m, rfl, _⟩ := h
    rfl
  · obtain ⟨p, m, rfl, ⟨i, j, e⟩, hm, hm2, q⟩ := h
    refine ⟨_, (pss_cons (ps_set (i := 2) sc__law_pick.nd rfl (.inl rfl) (pe_ix ix_list (pv 0) pe_int (fun _ _ => rfl)))
  (pss_cons (ps_if (pt_cmpR op_ge (pv 2) (pe_op op_pow pe_int pe_int) (nomark _))
    (pss_cons (ps_asg (pe_op op_fdivW (pv 2) (pv 1)) (pg_sub (pv 0) pe_int set_list))
      (pss_one (ps_ret (pe_op op_mod (pe_callTy (T := "int")  call_int1 (by rfl) T.z_int (by decide +kernel) (pa_cons (pv 2) pa_nil)) (pv 1)))))
    pss_nil)
  (pss_cons (ps_asg (pe_op op_add (pe_ix ix_list (pv 0) pe_int (fun _ _ => rfl)) pe_int) (pg_sub (pv 0) pe_int set_list))
  (pss_cons (ps_set (i := 3) sc__law_pick.nd rfl (.inl rfl) (pe_op op_mod (pe_op op_add (pe_op op_add (pe_op op_mul (pe_op op_mod (pe_callTy (T := "int")  call_int1 (by rfl) T.z_int (by decide +kernel) (pa_cons (pv 2) pa_nil)) pe_int) pe_int) (pe_op op_mul (pe_ix ix_list (pv 0) pe_int (fun _ _ => rfl)) pe_int)) pe_int) pe_int))
  (pss_cons (ps_set (i := 3) sc__law_pick.nd rfl (.inl rfl) (pe_op op_mod (pe_op op_mul (pv 3) (pe_op op_add (pe_op op_fdivW (pv 3) pe_int) pe_int)) pe_int))
  (pss_cons (ps_set (i := 3) sc__law_pick.nd rfl (.inl rfl) (pe_op op_mod (pe_op op_mul (pv 3) (pe_op op_add (pe_op op_fdivW (pv 3) pe_int) pe_int)) pe_int))
  (pss_one (ps_ret (pe_op op_mod (pv 3) (pv 1)))))))))), ?_⟩
    have e18 : (10 : Int) ^ (18 : Int).toNat = 1000000000000000000 := by decide +kernel
    have o0 := Oth.refl p H
    refine ⟨_, rfl, _, _, _, _, rfl, rfl, .of e, atI_nat (j := 0) rfl, ?_⟩
    refine ⟨_, rfl, _, _, rfl, rfl, ⟨by decide, by decide, by decide⟩, _, _, rfl, rfl, _, rfl, ite_d (fun h1 => ?_) (fun h1 => ?_)⟩
    · refine ⟨_, rfl, _, rfl, _, _, rfl, rfl, wide_div hm hm2 (by decide) (by decide), _, rfl, _, _, _, 0, rfl, rfl, e, ixN_at (j := 0) (by show 0 < 2; decide), ?_⟩
      refine ⟨_, rfl, .inl ⟨_, rfl, _, rfl, _, _, rfl, rfl, hm, ?_⟩⟩
      exact q _ _ (Int.emod_nonneg _ (by omega)) (Int.emod_lt_of_pos _ hm) ⟨⟨_, _, upd_same⟩, o0.upd⟩
    · refine ⟨_, rfl, _, _, _, _, rfl, rfl, .of e, atI_nat (j := 1) rfl, _, _, rfl, rfl, _, rfl, _, _, _, 1, rfl, rfl, e, ixN_at (j := 1) (by show 1 < 2; decide), ?_⟩
      generalize hH : upd H p (HO.lst (List.set _ _ _)) = H1
      have e1 : H1 p = some (.lst [.int i, .int (j + 1)]) := by rw [← hH]; exact upd_same
      have o1 : Oth p H H1 := by rw [← hH]; exact o0.upd
      have fin : ∀ z : Int, Q (.int (z % m)) H1 := fun z => q _ _ (Int.emod_nonneg _ (by omega)) (Int.emod_lt_of_pos _ hm) ⟨⟨_, _, e1⟩, o1⟩
      clear hH
      refine ⟨_, rfl, .inl ⟨_, rfl, _, _, rfl, rfl, (by show (0 : Int) < _; decide), _, _, rfl, rfl, .inr ⟨by decide, by decide⟩, _, rfl, _, _, _, _, rfl, rfl, .of e1, atI_nat (j := 1) rfl, _, _, rfl, rfl, .inr ⟨by decide, by decide⟩, _, _, rfl, rfl, _, _, rfl, rfl, _, _, rfl, rfl, (by show (0 : Int) < _; decide), ?_⟩⟩
      generalize hz : ((i % 2147483647 * 48271 + (j + 1) * 69623 + 11) % 2147483629 : Int) = z
      have z1 : 0 ≤ z ∧ z < 2147483629 := by rw [← hz]; exact ⟨Int.emod_nonneg _ (by decide), Int.emod_lt_of_pos _ (by decide)⟩
      clear hz
      have wd : ∀ {x y : Int}, 0 < y → y.natAbs < 2 ^ 64 → CDivW x y := fun h1 h2 => wide_div h1 h2 (by decide) (by decide)
      refine ⟨_, rfl, _, rfl, _, _, rfl, rfl, wd (by decide) (by decide), _, _, rfl, rfl, _, _, rfl, rfl, .inl ⟨by omega, by omega⟩, _, _, rfl, rfl, (by show (0 : Int) < _; decide), ?_⟩
      generalize hy : (z * (z / 1009 + 69621) % 2147483647 : Int) = y
      have y1 : 0 ≤ y ∧ y < 2147483647 := by rw [← hy]; exact ⟨Int.emod_nonneg _ (by decide), Int.emod_lt_of_pos _ (by decide)⟩
      clear hy
      refine ⟨_, rfl, _, rfl, _, _, rfl, rfl, wd (by decide) (by decide), _, _, rfl, rfl, _, _, rfl, rfl, .inl ⟨by omega, by omega⟩, _, _, rfl, rfl, (by show (0 : Int) < _; decide), ?_⟩
      exact ⟨_, rfl, _, rfl, _, _, rfl, rfl, hm, fin _⟩
end
section
variable {P : Program} {w : World} {K : PySem.W.Frag} {mg : Str → Option Value} {base : Heap} {a : Nat → Addr} {d : Nat → FuncData}
def spDB (f : PyData → Bool) : Sp := fun vs H Q _ => ∃ (C : Addr → Prop) (n : Nat) (v : V) (d : PyData), vs = [v] ∧ DA C H n v d ∧ ∀ H', Same H H' → Q (.bl (f d)) H'
theorem ok_is_variable (T : Txt K mg a d) : FnOk P w K mg base CX0 2 (a 16) (d 16) ["thing"] (spDB varD) := by
  have G12 : FnOk P w K mg base CX0 1 (a 12) (d 12) ["thing"] (spB plainV) := ok_plain T
  refine T.F16.ok sc_is_variable (fun vs H Q E h => ?_) (fun cdv A outer s H vs Q E hr h => ?_)
  · obtain ⟨C, n, v, d, rfl, _⟩ := h
    rfl
  · obtain ⟨C, n, v, d, rfl, hv, q⟩ := h
    obtain ⟨t9, h_GREATEST_VALUE⟩ := T.c_GREATEST_VALUE
    obtain ⟨nm, hty, k1, _⟩ := hv.ty (K := K)
    refine ⟨_, (pss_cons (ps_if (PW.pt (pw_or (pt_not (pt_val (pe_callB (id := "isinstance")  call_isi (by rfl) T.z_isinstance (by decide +kernel) (pa_cons (pv 0) (pa_cons (pe_bltn (v := .ty "tuple") (by rfl) T.z_tuple (by decide +kernel) rfl) pa_nil))))) (pw_or1 (pt_cmpR op_ne (pe_callB (id := "len")  call_len_seq (by rfl) T.z_len (by decide +kernel) (pa_cons (pv 0) pa_nil)) pe_int (nomark _)))))
    (pss_one (ps_ret pe_bl))
    pss_nil)
  (pss_one (ps_ret (pe_and (pe_call G12 (hr.mono (by decide)) (by rfl) T.g12 T.F12.kp T.b12 .nil pass0 (pa_cons (pe_ix ix_tup (pv 0) pe_int (fun _ _ => rfl)) pa_nil)) (pe_one (pe_chain op_le op_le pe_int (pe_ix ix_tup (pv 0) pe_int (fun _ _ => rfl)) (pe_glob (v := .int (999999999999999999999999999999)) rfl h_GREATEST_VALUE ⟨_, rfl⟩))))))), ?_⟩
    refine ⟨_, rfl, _, _, _, _, _, rfl, .ty _, hty, kit_ty k1, _, rfl, ?_⟩
    cases d with
    | tuple ds =>
      obtain ⟨p, xs, k, rfl, rfl, _, hp, _, pr⟩ := hv.asTup
      refine ifF ?_
      refine ⟨_, rfl, p, _, rfl, .inr (.of hp), rfl, _, rfl, ?_⟩
      have no : ds.length ≠ 1 → Q (.bl false) H := fun h => by
        have q1 := q H (Same.refl H)
        rw [varD_len h] at q1
        exact q1
      have hl := Paired.length pr
      refine ite_nd (fun h => no fun e => h (by rw [hl, e]; rfl)) (fun h => ?_)
      have h : xs.length = 1 := by have := V.int.inj h; omega
      match xs, ds, pr, h with
      | [x], [e], .cons hx .nil, _ =>
        refine ⟨_, rfl, _, _, _, _, rfl, rfl, .of hp, atI_nat (j := 0) rfl, x, rfl, hx.thg, fun H1 s1 => ⟨_, rfl, ?_⟩⟩
        rw [hx.plain]
        cases e with
        | int i =>
          have := hx.asInt
          subst this
          have q1 : Q (.bl (decide (0 ≤ i ∧ i ≤ 999999999999999999999999999999))) H1 := q H1 s1
          refine ifT ⟨_, rfl, _, _, _, _, rfl, rfl, .of (s1 _ _ hp), atI_nat (j := 0) rfl, _, _, rfl, rfl, _, rfl, ite_d (fun h1 => ?_) (fun h1 => ?_)⟩
          · refine ⟨_, _, rfl, rfl, ?_⟩
            have h1 : 0 ≤ i := h1
            show Q (.bl (decide (i ≤ 999999999999999999999999999999))) H1
            rw [show decide (i ≤ 999999999999999999999999999999) = decide (0 ≤ i ∧ i ≤ 999999999999999999999999999999) by simp [h1]]
            exact q1
          · have h1 : ¬ 0 ≤ i := h1
            rw [decide_eq_false (fun z => h1 z.1)] at q1
            exact q1
        | none => exact ifF (q H1 s1)
        | bool b => exact ifF (q H1 s1)
        | str z => exact ifF (q H1 s1)
        | list z => exact ifF (q H1 s1)
        | tuple z => exact ifF (q H1 s1)
        | dict z => exact ifF (q H1 s1)
    | none => exact ifT (q H (Same.refl H))
    | bool b => exact ifT (q H (Same.refl H))
    | int i => exact ifT (q H (Same.refl H))
    | str z => exact ifT (q H (Same.refl H))
    | list z => exact ifT (q H (Same.refl H))
    | dict z => exact ifT (q H (Same.refl H))
theorem ok_is_term (T : Txt K mg a d) : FnOk P w K mg base CX0 3 (a 17) (d 17) ["thing"] (spDB termD) := by
  have G14 : FnOk P w K mg base CX0 2 (a 14) (d 14) ["thing"] (spB valV') := ok_is_value T
  have G16 : FnOk P w K mg base CX0 2 (a 16) (d 16) ["thing"] (spDB varD) := ok_is_variable T
  refine T.F17.ok sc_is_term (fun vs H Q E h => ?_) (fun cdv A outer s H vs Q E hr h => ?_)
  · obtain ⟨C, n, v, d, rfl, _⟩ := h
    rfl
  · obtain ⟨C, n, v, d, rfl, hv, q⟩ := h
    refine ⟨_, (pss_one (ps_ret (pe_or (pe_call G14 (hr.mono (by decide)) (by rfl) T.g14 T.F14.kp T.b14 .nil pass0 (pa_cons (pv 0) pa_nil)) (pe_one (pe_call G16 (hr.mono (by decide)) (by rfl) T.g16 T.F16.kp T.b16 .nil pass0 (pa_cons (pv 0) pa_nil)))))), ?_⟩
    refine ⟨_, rfl, v, rfl, hv.thg, fun H1 s1 => ⟨_, rfl, ?_⟩⟩
    rw [hv.val]
    unfold termD at q
    cases e : valD d with
    | true =>
      rw [e] at q
      exact ifT (q H1 s1)
    | false =>
      rw [e] at q
      exact ifF ⟨_, rfl, C, n, v, d, rfl, hv.same s1, fun H2 s2 => q H2 (s1.trans s2)⟩
theorem ok_is_atom (T : Txt K mg a d) : FnOk P w K mg base CX0 1 (a 49) (d 49) ["thing"] (spDB atomD) := by
  refine T.F49.ok sc__is_atom (fun vs H Q E h => ?_) (fun cdv A outer s H vs Q E hr h => ?_)
  · obtain ⟨C, n, v, d, rfl, _⟩ := h
    rfl
  · obtain ⟨C, n, v, d, rfl, hv, q⟩ := h
    obtain ⟨nm, hty, k1, _⟩ := hv.ty (K := K)
    refine ⟨_, (pss_one (ps_ret (pe_and (pe_callB (id := "isinstance")  call_isi (by rfl) T.z_isinstance (by decide +kernel) (pa_cons (pv 0) (pa_cons (pe_bltn (v := .ty "tuple") (by rfl) T.z_tuple (by decide +kernel) rfl) pa_nil))) (pe_and (pe_cmpR op_eq (pe_callB (id := "len")  call_len_seq (by rfl) T.z_len (by decide +kernel) (pa_cons (pv 0) pa_nil)) pe_int (nomark _)) (pe_one (pe_callB (id := "isinstance")  call_isi (by rfl) T.z_isinstance (by decide +kernel) (pa_cons (pe_ix ix_tup (pv 0) pe_int (fun _ _ => rfl)) (pa_cons (pe_bltn (v := .ty "tuple") (by rfl) T.z_tuple (by decide +kernel) rfl) pa_nil)))))))), ?_⟩
    refine ⟨_, rfl, _, _, _, _, _, rfl, .ty _, hty, kit_ty k1, _, rfl, ?_⟩
    cases d with
    | tuple ds =>
      obtain ⟨p, xs, k, rfl, rfl, _, hp, _, pr⟩ := hv.asTup
      refine ifT ?_
      refine ⟨_, rfl, p, _, rfl, .inr (.of hp), rfl, ?_⟩
      have hl := Paired.length pr
      have no : ds.length ≠ 2 → Q (.bl false) H := fun h => by
        have q1 := q H (Same.refl H)
        rw [atomD_len h] at q1
        exact q1
      refine ⟨_, rfl, ite_d (fun h => ?_) (fun h => ?_)⟩
      · have h : xs.length = 2 := by have := V.int.inj h; omega
        match xs, ds, pr, h with
        | [x, y], [e, f], .cons hx (.cons hy .nil), _ =>
          obtain ⟨nm2, hty2, k2, _⟩ := hy.ty (K := K)
          refine ⟨_, rfl, _, _, _, _, rfl, rfl, .of hp, atI_nat (j := 1) rfl, _, _, _, _, _, rfl, .ty _, hty2, kit_ty k2, ?_⟩
          have q1 := q H (Same.refl H)
          cases f <;> exact q1
      · have q1 := no fun e => h (by rw [hl, e]; rfl)
        exact q1
    | none => exact ifF (q H (Same.refl H))
    | bool b => exact ifF (q H (Same.refl H))
    | int i => exact ifF (q H (Same.refl H))
    | str z => exact ifF (q H (Same.refl H))
    | list z => exact ifF (q H (Same.refl H))
    | dict z => exact ifF (q H (Same.refl H))
end
/-! ### two generators, the second over what the first gives -/
section
theorem lc2_in {J1 : It} {n : Nat} {Gd : Hp → Prop} {Y : Nat → Hp → V → Hp → Prop} (w : Walk J1 n Gd Y) {g1 : L2.TG} {tt1 : TT} {te : TE} {vs1 : List Nat} {σ2 : L2.St} {H4 : Hp} {D : Addr} {Nx : Hp → Prop} (Pv : Nat → Hp → Prop) (h0 : Pv 0 H4) (hG : ∀ i H, i ≤ n → Pv i H → Gd H)
    (hs : ∀ i x H H', i < n → Pv i H → Y i H x H' → g1 x (wipe σ2 vs1) H' fun σ3 H5 => wipe σ3 vs1 = wipe σ2 vs1 ∧ tt1 σ3 H5 fun b H6 =>
      if b = true then te σ3 H6 fun y H7 => ∃ acc, H7 D = some (.lst acc) ∧ acc.length < sizeLine ∧ Pv (i + 1) (upd H7 D (.lst (acc ++ [y]))) else Pv (i + 1) H6) (hd : ∀ H, Pv n H → Nx H) :
    ∃ W1 : Nat → Nat → Hp → Prop, (∃ m, W1 0 m H4) ∧ ∀ j k H, W1 j k H →
      (J1.stop j H ∧ Nx H) ∨ (J1.go j H ∧ ∃ Nx1 : Hp → Prop, (∀ H', Nx1 H' → ∃ k', k' < k ∧ W1 (j + 1) k' H') ∧ ∀ x H', J1.yld j H x H' → g1 x (wipe σ2 vs1) H' fun σ3 H5 => wipe σ3 vs1 = wipe σ2 vs1 ∧ tt1 σ3 H5 fun b H6 =>
        if b = true then te σ3 H6 fun y H7 => ∃ acc, H7 D = some (.lst acc) ∧ acc.length < sizeLine ∧ Nx1 (upd H7 D (.lst (acc ++ [y]))) else Nx1 H6) := by
  refine ⟨fun i m H => m = n - i ∧ i ≤ n ∧ Pv i H, ⟨n, by simp, Nat.zero_le _, h0⟩, ?_⟩
  rintro i m H ⟨rfl, hi, p⟩
  have q := hG i H hi p
  by_cases hlt : i < n
  · refine .inr ⟨w.goes i H hlt q, Pv (i + 1), fun H' p' => ⟨n - (i + 1), by omega, rfl, hlt, p'⟩, fun x H' y => hs i x H H' hlt p (w.yields i H x H' hlt q y)⟩
  · have e : i = n := by omega
    subst e
    exact .inl ⟨w.stops H q, hd H p⟩
/-- the outer one: the turn's end is Pv (i + 1) -/
theorem lc2_out {J : It} {n : Nat} {Gd : Hp → Prop} {Y : Nat → Hp → V → Hp → Prop} (w : Walk J n Gd Y) {F : (Hp → Prop) → V → Hp → Prop} {H0 : Hp} {Qd : Hp → Prop} (Pv : Nat → Hp → Prop) (h0 : Pv 0 H0) (hG : ∀ i H, i ≤ n → Pv i H → Gd H)
    (hs : ∀ i x H H', i < n → Pv i H → Y i H x H' → F (Pv (i + 1)) x H') (hd : ∀ H, Pv n H → Qd H) :
    ∃ W : Nat → Nat → Hp → Prop, (∃ m, W 0 m H0) ∧ ∀ i m H, W i m H → (J.stop i H ∧ Qd H) ∨ (J.go i H ∧ ∃ Nx : Hp → Prop, (∀ H', Nx H' → ∃ m', m' < m ∧ W (i + 1) m' H') ∧ ∀ x H', J.yld i H x H' → F Nx x H') := by
  refine ⟨fun i m H => m = n - i ∧ i ≤ n ∧ Pv i H, ⟨n, by simp, Nat.zero_le _, h0⟩, ?_⟩
  rintro i m H ⟨rfl, hi, p⟩
  have q := hG i H hi p
  by_cases hlt : i < n
  · refine .inr ⟨w.goes i H hlt q, Pv (i + 1), fun H' p' => ⟨n - (i + 1), by omega, rfl, hlt, p'⟩, fun x H' y => hs i x H H' hlt p (w.yields i H x H' hlt q y)⟩
  · have e : i = n := by omega
    subst e
    exact .inl ⟨w.stops H q, hd H p⟩
end
theorem pi_or {X : Cx} {tg e : Expr} {t1 t2 : TI} (h1 : PI X tg e t1) (h2 : PI X tg e t2) : PI X tg e (fun σ H k => t1 σ H k ∨ t2 σ H k) := ⟨fun pins s σ H R I h => h.elim (h1.run pins s σ H R I) (h2.run pins s σ H R I)⟩
theorem dcT_it {J : It} {n : Nat} {Gd : Hp → Prop} {Y : Nat → Hp → V → Hp → Prop} (w : Walk J n Gd Y) {g : TG} {tt : TT} {tk tv : TE} {vs : List Nat} {σ : L2.St} {H1 : Hp} {D : Addr} {Qd : Hp → Prop} (Pv : Nat → Hp → Prop) (h0 : Pv 0 (upd H1 D (.dT []))) (hG : ∀ i H, i ≤ n → Pv i H → Gd H)
    (hs : ∀ i x H H', i < n → Pv i H → Y i H x H' → g x (wipe σ vs) H' fun σ2 H2 => wipe σ2 vs = wipe σ vs ∧ tt σ2 H2 fun b H3 =>
      if b = true then tk σ2 H3 fun y H4 => tv σ2 H4 fun z H5 => ∃ kvs k c, y = .ref c ∧ H5 c = some (.tup (k.map kV)) ∧ H5 D = some (.dT kvs) ∧ kvs.length < sizeLine ∧ Pv (i + 1) (upd H5 D (.dT (putK kvs k z))) else Pv (i + 1) H3) (hd : ∀ H, Pv n H → Qd H) :
    ∃ W : Nat → Nat → Hp → Prop, (∃ m, W 0 m (upd H1 D (.dT []))) ∧ ∀ i m H, W i m H →
      (J.stop i H ∧ Qd H) ∨ (J.go i H ∧ ∃ Nx : Hp → Prop, (∀ H', Nx H' → ∃ m', m' < m ∧ W (i + 1) m' H') ∧ ∀ x H', J.yld i H x H' → g x (wipe σ vs) H' fun σ2 H2 => wipe σ2 vs = wipe σ vs ∧ tt σ2 H2 fun b H3 =>
        if b = true then tk σ2 H3 fun y H4 => tv σ2 H4 fun z H5 => ∃ kvs k c, y = .ref c ∧ H5 c = some (.tup (k.map kV)) ∧ H5 D = some (.dT kvs) ∧ kvs.length < sizeLine ∧ Nx (upd H5 D (.dT (putK kvs k z))) else Nx H3) := by
  refine ⟨fun i m H => m = n - i ∧ i ≤ n ∧ Pv i H, ⟨n, by simp, Nat.zero_le _, h0⟩, ?_⟩
  rintro i m H ⟨rfl, hi, p⟩
  have q := hG i H hi p
  by_cases hlt : i < n
  · refine .inr ⟨w.goes i H hlt q, Pv (i + 1), fun H' p' => ⟨n - (i + 1), by omega, rfl, hlt, p'⟩, fun x H' y => hs i x H H' hlt p (w.yields i H x H' hlt q y)⟩
  · have e : i = n := by omega
    subst e
    exact .inl ⟨w.stops H q, hd H p⟩
section
variable {P : Program} {w : World} {K : PySem.W.Frag} {mg : Str → Option Value} {base : Heap} {a : Nat → Addr} {d : Nat → FuncData}
theorem take_fm {ds : List PyData} {i : Nat} {e : PyData} (h : ds[i]? = some e) : (ds.take (i + 1)).filterMap varI = (ds.take i).filterMap varI ++ (varI e).toList := by
  rw [take_snoc h, List.filterMap_append]
  cases hv : varI e with
  | none => rw [List.filterMap_cons_none hv]; rfl
  | some z => rw [List.filterMap_cons_some hv]; rfl
/-- what some variables are, each once -/
def VarsAt (H : Hp) (r : Addr) (ds : List PyData) : Prop := ∃ (bs : List Addr) (is : List Int), H r = some (.lst (bs.map V.ref)) ∧ Paired (fun b i => H b = some (.tup [.int i])) bs is ∧ (∀ i, i ∈ is ↔ .tuple [.int i] ∈ ds) ∧ bs.length ≤ ds.length
def spVars : Sp := fun vs H Q _ => ∃ (C : Addr → Prop) (n : Nat) (p : Addr) (xs : List V) (ds : List PyData), vs = [.ref p] ∧ (H p = some (.lst xs) ∨ H p = some (.tup xs)) ∧ Paired (DA C H n) xs ds ∧ (∀ d ∈ ds, termD d = true) ∧ xs.length ≤ 6000 ∧ ∀ r H', VarsAt H' r ds → Same H H' → Q (.ref r) H'
theorem ok_vars (T : Txt K mg a d) : FnOk P w K mg base CX0 1 (a 18) (d 18) ["terms"] spVars := by
  refine T.F18.ok sc_term_variables (fun vs H Q E h => ?_) (fun cdv A outer s H vs Q E hr h => ?_)
  · obtain ⟨C, n, p, xs, ds, rfl, _⟩ := h
    rfl
  · obtain ⟨C, n, p, xs, ds, rfl, hp, pr, ht, hl, q⟩ := h
    refine ⟨_, (pss_one (ps_ret (pe_callTy (T := "list")  (call_list_dT rfl) (by rfl) T.z_list (by decide +kernel) (pa_cons (DcT.pe_dcT (own := [("term", 1)]) (hu_of hr) rfl sc_term_variables.nd (pi_or (pi_list (pv 0)) (pi_tup (pv 0))) (blkOk_by (N := ["terms", "term"]) (sc := defScope s_term_variables) (by decide +kernel)) (fun _ _ _ _ _ => pg_name (i := 1) sc_term_variables.nd rfl (.inl rfl)) (fun _ _ _ _ _ => (pts_one (pt_val (pe_callB (id := "isinstance") (r := rIsi K)  call_isi (by rfl) T.z_isinstance (by decide +kernel) (pa_cons (pv 1) (pa_cons (pe_bltn (v := .ty "tuple") (by rfl) T.z_tuple (by decide +kernel) rfl) pa_nil)))))) (fun _ _ _ _ _ => (pv 1)) (fun _ _ _ _ _ => pe_bl)) pa_nil)))), ?_⟩
    have hlen := Paired.length pr
    -- the turn and the end, for a list or a tuple
    have h0 : ∀ D, H D = none → upd H D (.dT []) D = some (.dT ((uniq (((ds.take 0).filterMap varI).map fun i => [Sum.inl i])).map fun k => (k, V.bl true))) ∧ Same H (upd H D (.dT [])) := fun D hD => ⟨upd_same, same_upd hD⟩
    have ulen : ∀ i, i ≤ xs.length → ((uniq (((ds.take i).filterMap varI).map fun i => [Sum.inl i])).map fun k => (k, V.bl true)).length ≤ i := fun i hi => by
      rw [List.length_map]
      refine Nat.le_trans (uniq_len _) ?_
      rw [List.length_map]
      refine Nat.le_trans (List.length_filterMap_le ..) ?_
      rw [List.length_take]
      exact Nat.min_le_left ..
    have fin : ∀ D H1, H1 D = some (.dT ((uniq (((ds.take xs.length).filterMap varI).map fun i => [Sum.inl i])).map fun k => (k, V.bl true))) → Same H H1 → ∀ r bs, H1 r = none → IsKeys H1 ((uniq (((ds.take xs.length).filterMap varI).map fun i => [Sum.inl i])).map fun k => (k, V.bl true)) bs → Q (.ref r) (upd H1 r (.lst (bs.map V.ref))) := fun D H1 h1 s1 r bs hr hk => by
      have s2 := same_upd (o := .lst (bs.map V.ref)) hr
      rw [hlen, List.take_length] at hk
      obtain ⟨_, mem⟩ := uniq_all ((ds.filterMap varI).map fun i => ([Sum.inl i] : RowK))
      have hb : ∀ {us : List RowK} {bs : List Addr}, (∀ u ∈ us, ∃ i : Int, u = [Sum.inl i]) → Paired (fun (p : RowK × V) b => H1 b = some (.tup (p.1.map kV))) (us.map fun k => (k, V.bl true)) bs → ∃ is : List Int, us = is.map (fun i => [Sum.inl i]) ∧ Paired (fun b i => H1 b = some (.tup [.int i])) bs is := by
        intro us
        induction us with
        | nil =>
          intro bs _ h
          cases h
          exact ⟨[], rfl, .nil⟩
        | cons u us ih =>
          intro bs hu h
          cases h with
          | cons h1 h2 =>
            obtain ⟨i, rfl⟩ := hu u (by simp)
            obtain ⟨is, e1, e2⟩ := ih (fun u hu' => hu u (by simp [hu'])) h2
            exact ⟨i :: is, by rw [e1]; rfl, .cons h1 e2⟩
      obtain ⟨is, e1, e2⟩ := hb (fun u hu => by
        obtain ⟨i, _, e⟩ := List.mem_map.mp ((mem u).mp hu)
        exact ⟨i, e.symm⟩) hk
      refine q r _ ⟨bs, is, upd_same, paired_imp (fun _ _ h => s2 _ _ h) e2, fun i => ?_, ?_⟩ (s1.trans s2)
      · rw [← varI_mem]
        have h1 := mem [Sum.inl i]
        rw [e1] at h1
        constructor
        · intro h
          obtain ⟨j, hj, e⟩ := List.mem_map.mp (h1.mp (List.mem_map.mpr ⟨i, h, rfl⟩))
          cases e
          exact hj
        · intro h
          obtain ⟨j, hj, e⟩ := List.mem_map.mp (h1.mpr (List.mem_map.mpr ⟨i, h, rfl⟩))
          cases e
          exact hj
      · have h1 := Paired.length hk
        have h2 := ulen ds.length (by omega)
        rw [List.take_length] at h2
        rw [← h1]
        exact h2
    rcases hp with hp | hp
    · refine .inl ⟨_, rfl, p, rfl, ⟨_, .of hp⟩, fun D hD => ?_⟩
      refine dcT_it (walk_list (K := K) (a := p) (xs := xs)) (fun i H' => H' D = some (.dT ((uniq (((ds.take i).filterMap varI).map fun i => [Sum.inl i])).map fun k => (k, V.bl true))) ∧ Same H H') (h0 D hD) (fun i H' _ hp' => .of (hp'.2 _ _ hp)) (fun i x H' H'' hi hp' hy => ?_) (fun H' hp' => ?_)
      · obtain ⟨rfl, hx⟩ := hy
        obtain ⟨e, he, hxe⟩ := paired_at pr hx
        have hte := ht e (List.mem_of_getElem? he)
        have hx' := hxe.same hp'.2
        obtain ⟨nm, hty, k1, _⟩ := hx'.ty (K := K)
        refine ⟨rfl, _, rfl, _, _, _, _, _, rfl, .ty _, hty, kit_ty k1, _, rfl, ?_⟩
        have no : varI e = none → H'' D = some (.dT ((uniq (((ds.take (i + 1)).filterMap varI).map fun i => [Sum.inl i])).map fun k => (k, V.bl true))) ∧ Same H H'' := fun hv => by
          rw [take_fm he, hv]
          simpa using hp'
        cases e with
        | tuple es =>
          obtain ⟨z, rfl⟩ := term_tup hte
          obtain ⟨c, ys, k, rfl, rfl, _, hc, _, pc⟩ := hx'.asTup
          match ys, pc with
          | [y], .cons hy0 .nil =>
            have := hy0.asInt
            subst this
            refine ifT ⟨_, rfl, _, [Sum.inl z], c, rfl, hc, hp'.1, ?_, ?_, fun b o eb => ?_⟩
            · exact Nat.lt_of_le_of_lt (ulen i (Nat.le_of_lt hi)) (Nat.lt_of_lt_of_le hi (Nat.le_trans hl (by decide)))
            · rw [putK_uniq, take_fm he, List.map_append, show (varI (.tuple [.int z])).toList.map (fun i => ([Sum.inl i] : RowK)) = [[Sum.inl z]] from rfl, uniq_snoc]
              exact upd_same
            · rw [upd_ne (ne_of_none eb hD)]
              exact hp'.2 b o eb
        | none => exact ifF (no rfl)
        | bool b => exact ifF (no rfl)
        | int b => exact ifF (no rfl)
        | str b => exact ifF (no rfl)
        | list b => exact ifF (no rfl)
        | dict b => exact ifF (no rfl)
      · exact ⟨D, _, rfl, .inl hp'.1, fun r bs hr hk => fin D H' hp'.1 hp'.2 r bs hr hk⟩
    · refine .inr ⟨_, rfl, p, rfl, ⟨_, .of hp⟩, fun D hD => ?_⟩
      refine dcT_it (walk_tup (K := K) (a := p) (xs := xs)) (fun i H' => H' D = some (.dT ((uniq (((ds.take i).filterMap varI).map fun i => [Sum.inl i])).map fun k => (k, V.bl true))) ∧ Same H H') (h0 D hD) (fun i H' _ hp' => .of (hp'.2 _ _ hp)) (fun i x H' H'' hi hp' hy => ?_) (fun H' hp' => ?_)
      · obtain ⟨rfl, hx⟩ := hy
        obtain ⟨e, he, hxe⟩ := paired_at pr hx
        have hte := ht e (List.mem_of_getElem? he)
        have hx' := hxe.same hp'.2
        obtain ⟨nm, hty, k1, _⟩ := hx'.ty (K := K)
        refine ⟨rfl, _, rfl, _, _, _, _, _, rfl, .ty _, hty, kit_ty k1, _, rfl, ?_⟩
        have no : varI e = none → H'' D = some (.dT ((uniq (((ds.take (i + 1)).filterMap varI).map fun i => [Sum.inl i])).map fun k => (k, V.bl true))) ∧ Same H H'' := fun hv => by
          rw [take_fm he, hv]
          simpa using hp'
        cases e with
        | tuple es =>
          obtain ⟨z, rfl⟩ := term_tup hte
          obtain ⟨c, ys, k, rfl, rfl, _, hc, _, pc⟩ := hx'.asTup
          match ys, pc with
          | [y], .cons hy0 .nil =>
            have := hy0.asInt
            subst this
            refine ifT ⟨_, rfl, _, [Sum.inl z], c, rfl, hc, hp'.1, ?_, ?_, fun b o eb => ?_⟩
            · exact Nat.lt_of_le_of_lt (ulen i (Nat.le_of_lt hi)) (Nat.lt_of_lt_of_le hi (Nat.le_trans hl (by decide)))
            · rw [putK_uniq, take_fm he, List.map_append, show (varI (.tuple [.int z])).toList.map (fun i => ([Sum.inl i] : RowK)) = [[Sum.inl z]] from rfl, uniq_snoc]
              exact upd_same
            · rw [upd_ne (ne_of_none eb hD)]
              exact hp'.2 b o eb
        | none => exact ifF (no rfl)
        | bool b => exact ifF (no rfl)
        | int b => exact ifF (no rfl)
        | str b => exact ifF (no rfl)
        | list b => exact ifF (no rfl)
        | dict b => exact ifF (no rfl)
      · exact ⟨D, _, rfl, .inl hp'.1, fun r bs hr hk => fin D H' hp'.1 hp'.2 r bs hr hk⟩
end
section
variable {P : Program} {w : World} {K : PySem.W.Frag} {mg : Str → Option Value} {base : Heap} {a : Nat → Addr} {d : Nat → FuncData}
/-- atoms whose terms are terms, and not too many -/
def AtsOk (as : List PyData) : Prop := as.length ≤ 5 ∧ ∀ x ∈ as, atomD x = true ∧ (atTerms x).length ≤ 1000 ∧ ∀ t ∈ atTerms x, termD t = true
theorem atom_data {x : PyData} (h : atomD x = true) : ∃ n ts, x = .tuple [n, .tuple ts] := by
  unfold atomD at h
  split at h
  · exact ⟨_, _, rfl⟩
  · cases h
theorem fm_len {as : List PyData} (h : AtsOk as) : ∀ i, ((as.take i).flatMap atTerms).length ≤ 5000 := fun i => by
  have : ∀ l : List PyData, (∀ x ∈ l, (atTerms x).length ≤ 1000) → (l.flatMap atTerms).length ≤ 1000 * l.length := by
    intro l
    induction l with
    | nil => intro _; exact Nat.le_refl _
    | cons x l ih =>
      intro hx
      rw [List.flatMap_cons, List.length_append, List.length_cons]
      have h1 := hx x (by simp)
      have h2 := ih fun y hy => hx y (by simp [hy])
      omega
  have h1 := this (as.take i) fun x hx => (h.2 x (List.mem_of_mem_take hx)).2.1
  have h2 : (as.take i).length ≤ 5 := by rw [List.length_take]; have := h.1; omega
  omega
def spAVars : Sp := fun vs H Q _ => ∃ (C : Addr → Prop) (n : Nat) (v : V) (as : List PyData), vs = [v] ∧ DA C H n v (.list as) ∧ AtsOk as ∧ ∀ r H', VarsAt H' r (as.flatMap atTerms) → Same H H' → Q (.ref r) H'
theorem ok_avars (T : Txt K mg a d) : FnOk P w K mg base CX0 2 (a 19) (d 19) ["atoms"] spAVars := by
  have G18 : FnOk P w K mg base CX0 1 (a 18) (d 18) ["terms"] spVars := ok_vars T
  refine T.F19.ok sc_atom_variables (fun vs H Q E h => ?_) (fun cdv A outer s H vs Q E hr h => ?_)
  · obtain ⟨C, n, v, as, rfl, _⟩ := h
    rfl
  · obtain ⟨C, n, v, as, rfl, hv, hok, q⟩ := h
    obtain ⟨p, xs, k, rfl, rfl, _, hp, _, pr⟩ := hv.asLst
    refine ⟨_, (pss_one (ps_ret (pe_call G18 (hr.mono (by decide)) (by rfl) T.g18 T.F18.kp T.b18 .nil pass0 (pa_cons (pe_lc2 (own := [("_", 1), ("terms", 2), ("term", 3)]) (vs1 := [3]) rfl sc_atom_variables.nd (pi_list (pv 0)) (blkOk_by (N := ["atoms", "_", "terms", "term"]) (sc := defScope s_atom_variables) (by decide +kernel)) (by decide) (fun _ _ _ _ _ => pg_tupK (K := K) 2 rfl (by rfl) (pgs_cons (pg_name (i := 1) sc_atom_variables.nd rfl (.inl rfl)) (pgs_cons (pg_name (i := 2) sc_atom_variables.nd rfl (.inl rfl)) pgs_nil))) (fun _ _ _ _ _ => pts_nil) (fun _ _ _ _ _ => (pi_tupK (K := K) (by rfl) (pv 2))) (fun _ _ _ _ _ => (pg_name (i := 3) sc_atom_variables.nd rfl (.inl rfl))) (fun _ _ _ _ _ => pts_nil) (fun _ _ _ _ _ => (pv 3))) pa_nil)))), ?_⟩
    have hlen := Paired.length pr
    refine ⟨_, rfl, p, rfl, ⟨_, .of hp⟩, fun D hD => ?_⟩
    refine lc2_out (walk_list (K := K) (a := p) (xs := xs)) (fun i H' => ∃ ys, H' D = some (.lst ys) ∧ Paired (DA (fun x => C x ∨ x = D) H' k) ys ((as.take i).flatMap atTerms) ∧ Same H H') ⟨[], upd_same, .nil, same_upd hD⟩ (fun i H' _ hp' => ?_) (fun i x H' H'' hi hp' hy => ?_) (fun H' hp' => ?_)
    · obtain ⟨_, _, _, s⟩ := hp'
      exact .of (s _ _ hp)
    · obtain ⟨ys, d1, d2, s⟩ := hp'
      obtain ⟨rfl, hx⟩ := hy
      obtain ⟨e, he, hxe⟩ := paired_at pr hx
      obtain ⟨o1, o2, o3⟩ := hok.2 e (List.mem_of_getElem? he)
      obtain ⟨nm, ts, rfl⟩ := atom_data o1
      have hxe' := (hxe.fresh hD).same s
      obtain ⟨b, us, k', rfl, rfl, _, hb, _, pb⟩ := hxe'.asTup
      match us, pb with
      | [u, z], .cons hu (.cons hz .nil) =>
        obtain ⟨c, zs, k2, rfl, rfl, nc, hc, _, pc⟩ := hz.asTup
        refine ⟨b, _, rfl, .of hb, rfl, _, _, rfl, _, _, rfl, rfl, rfl, ?_⟩
        refine ⟨_, rfl, c, rfl, ⟨_, .of hc⟩, ?_⟩
        have sc : Same H H'' := s
        have lz := Paired.length pc
        have et : (as.take (i + 1)).flatMap atTerms = (as.take i).flatMap atTerms ++ ts := by
          rw [take_snoc he, List.flatMap_append]
          simp [atTerms]
        have f5 := fm_len hok (i + 1)
        rw [et, List.length_append] at f5
        refine lc2_in (walk_tup (K := K) (a := c) (xs := zs)) (fun j H3 => ∃ ys, H3 D = some (.lst ys) ∧ Paired (DA (fun x => C x ∨ x = D) H3 (k2 + 1 + 1)) ys ((as.take i).flatMap atTerms ++ ts.take j) ∧ ∀ b o, b ≠ D → H'' b = some o → H3 b = some o) ⟨ys, d1, by rw [List.take_zero, List.append_nil]; exact d2, fun _ _ _ e => e⟩ (fun j H3 _ hp' => ?_) (fun j v H3 H4 hj hp' hz' => ?_) (fun H3 hp' => ?_)
        · obtain ⟨_, _, _, o⟩ := hp'
          exact .of (o _ _ (fun e => nc (.inr e)) hc)
        · obtain ⟨ys, d1, d2, o⟩ := hp'
          obtain ⟨rfl, hv⟩ := hz'
          obtain ⟨f, hf, hvf⟩ := paired_at pc hv
          have lj : j < zs.length := hj
          have ly := Paired.length d2
          rw [List.length_append, List.length_take] at ly
          have kp : ∀ x o', ¬ (C x ∨ x = D) → H4 x = some o' → upd H4 D (.lst (ys ++ [v])) x = some o' := fun x o' hn e => by
            rw [upd_ne (fun e' => hn (.inr e'))]
            exact e
          have hvf4 : DA (fun x => C x ∨ x = D) H4 (k2 + 1 + 1) v f := (hvf.keep fun b o' hn e => o b o' (fun e' => hn (.inr e')) e).up (by omega)
          refine ⟨rfl, _, rfl, ys, d1, Nat.lt_of_le_of_lt (by omega : _ ≤ 5000) (by decide), ys ++ [v], upd_same, ?_, fun b o' n e => ?_⟩
          · rw [take_snoc hf, ← List.append_assoc]
            exact paired_app (paired_imp (fun _ _ h => h.keep kp) d2) (.cons (hvf4.keep kp) .nil)
          · rw [upd_ne n]
            exact o b o' n e
        · obtain ⟨ys, d1, d2, o⟩ := hp'
          refine ⟨ys, d1, ?_, fun b o' e => ?_⟩
          · rw [et]
            rw [lz, List.take_length] at d2
            exact d2
          · exact o b o' (ne_of_none e hD) (s _ _ e)
    · obtain ⟨ys, d1, d2, s⟩ := hp'
      rw [hlen, List.take_length] at d2
      have hl5 := fm_len hok as.length
      rw [List.take_length] at hl5
      have ly := Paired.length d2
      exact ⟨_, _, D, ys, as.flatMap atTerms, rfl, .inl d1, d2, (fun d hd => by
        obtain ⟨x, hx, hd⟩ := List.mem_flatMap.mp hd
        exact (hok.2 x hx).2.2 d hd), by omega, fun r H2 hr s2 => q r H2 hr (s.trans s2)⟩
end
section
variable {P : Program} {w : World} {K : PySem.W.Frag} {mg : Str → Option Value} {base : Heap} {a : Nat → Addr} {d : Nat → FuncData}
def spAreTerms : Sp := fun vs H Q _ => ∃ (C : Addr → Prop) (n : Nat) (v : V) (ds : List PyData) (m : Int), vs = [v, .int m] ∧ DA C H n v (.tuple ds) ∧ ∀ H', Same H H' → Q (.bl (termsD m ds)) H'
theorem ok_are_terms (T : Txt K mg a d) : FnOk P w K mg base CX0 4 (a 51) (d 51) ["terms", "many"] spAreTerms := by
  have G17 : FnOk P w K mg base CX0 3 (a 17) (d 17) ["thing"] (spDB termD) := ok_is_term T
  refine T.F51.ok sc__are_terms (fun vs H Q E h => ?_) (fun cdv A outer s H vs Q E hr h => ?_)
  · obtain ⟨C, n, v, ds, m, rfl, _⟩ := h
    rfl
  · obtain ⟨C, n, v, ds, m, rfl, hv, q⟩ := h
    obtain ⟨p, xs, k, rfl, rfl, _, hp, l5, pr⟩ := hv.asTup
    have hlen := Paired.length pr
    refine ⟨_, (pss_one (ps_ret (pe_and (pe_cmpR op_eq (pe_callB (id := "len")  call_len_seq (by rfl) T.z_len (by decide +kernel) (pa_cons (pv 0) pa_nil)) (pv 1) (nomark _)) (pe_one (pe_callB (id := "all")  (cr_all rfl) (by rfl) T.z_all (by decide +kernel) (pa_cons (pe_lc (own := [("term", 2)]) rfl sc__are_terms.nd (pi_tup (pv 0)) (blkOk_by (N := ["terms", "many", "term"]) (sc := defScope s__are_terms) (by decide +kernel)) (fun _ _ _ _ _ => pg_name (i := 2) sc__are_terms.nd rfl (.inl rfl)) (fun _ _ _ _ _ => pts_nil) (fun _ _ _ _ _ => (pe_call G17 (hr.mono (by decide)) (by rfl) T.g17 T.F17.kp T.b17 .nil pass0 (pa_cons (pv 2) pa_nil)))) pa_nil)))))), ?_⟩
    refine ⟨_, rfl, p, _, rfl, .inr (.of hp), _, rfl, rfl, _, rfl, ?_⟩
    unfold termsD at q
    refine ite_eqI (fun h => ?_) (fun h => ?_)
    · rw [show decide ((ds.length : Int) = m) = true from decide_eq_true (by omega)] at q
      refine ⟨_, rfl, p, rfl, ⟨_, .of hp⟩, fun D hD => ?_⟩
      refine lc_tup (K := K) (a := p) (xs := xs) (fun i H' => H' D = some (.lst (((ds.take i).map termD).map V.bl)) ∧ Same H H') ⟨upd_same, same_upd hD⟩ (fun i H' _ hp' => .of (hp'.2 _ _ hp)) (fun i y H' hy hp' => ?_) (fun H' hp' => ?_)
      · obtain ⟨e, he, hxe⟩ := paired_at pr hy
        refine ⟨rfl, _, rfl, C, k, y, e, rfl, hxe.same hp'.2, fun H3 s3 => ?_⟩
        refine ⟨_, s3 _ _ hp'.1, ?_, ?_, fun b o eb => ?_⟩
        · rw [List.length_map, List.length_map, List.length_take]
          exact Nat.lt_of_le_of_lt (by omega : _ ≤ 5000) (by decide)
        · rw [map_take he, List.map_append]
          exact upd_same
        · rw [upd_ne (ne_of_none eb hD)]
          exact s3 _ _ (hp'.2 b o eb)
      · obtain ⟨h1, h2⟩ := hp'
        rw [hlen, List.take_length] at h1
        refine ⟨D, _, rfl, .of h1, ?_⟩
        rw [show (ds.map termD).all id = ds.all termD by rw [List.all_map]; rfl]
        exact q H' h2
    · rw [show decide ((ds.length : Int) = m) = false from decide_eq_false (by omega)] at q
      exact q H (Same.refl H)
theorem ok_has_form (T : Txt K mg a d) : FnOk P w K mg base CX0 2 (a 50) (d 50) ["part"] (spDB formD) := by
  have G49 : FnOk P w K mg base CX0 1 (a 49) (d 49) ["thing"] (spDB atomD) := ok_is_atom T
  refine T.F50.ok sc__has_form (fun vs H Q E h => ?_) (fun cdv A outer s H vs Q E hr h => ?_)
  · obtain ⟨C, n, v, d, rfl, _⟩ := h
    rfl
  · obtain ⟨C, n, v, d, rfl, hv, q⟩ := h
    obtain ⟨t9, h_MOST_ATOMS⟩ := T.c_MOST_ATOMS
    obtain ⟨nm, hty, k1, _⟩ := hv.ty (K := K)
    refine ⟨_, (pss_cons (ps_if (PW.pt (pw_or (pt_not (pt_val (pe_callB (id := "isinstance")  call_isi (by rfl) T.z_isinstance (by decide +kernel) (pa_cons (pv 0) (pa_cons (pe_bltn (v := .ty "tuple") (by rfl) T.z_tuple (by decide +kernel) rfl) pa_nil))))) (pw_or1 (pt_cmpR op_ne (pe_callB (id := "len")  call_len_seq (by rfl) T.z_len (by decide +kernel) (pa_cons (pv 0) pa_nil)) pe_int (nomark _)))))
    (pss_one (ps_ret pe_bl))
    pss_nil)
  (pss_cons (ps_asg (pv 0) (pg_tup rfl (pgs_cons (pg_name (i := 1) sc__has_form.nd rfl (.inl rfl)) (pgs_cons (pg_name (i := 2) sc__has_form.nd rfl (.inl rfl)) pgs_nil))))
  (pss_cons (ps_if (PW.pt (pw_or (pt_not (pt_val (pe_callB (id := "isinstance")  call_isi (by rfl) T.z_isinstance (by decide +kernel) (pa_cons (pv 1) (pa_cons (pe_bltn (v := .ty "tuple") (by rfl) T.z_tuple (by decide +kernel) rfl) pa_nil))))) (pw_or (pt_not (pt_val (pe_callB (id := "isinstance")  call_isi (by rfl) T.z_isinstance (by decide +kernel) (pa_cons (pv 2) (pa_cons (pe_bltn (v := .ty "list") (by rfl) T.z_list (by decide +kernel) rfl) pa_nil))))) (pw_or1 (pt_cmpR op_gt (pe_callB (id := "len")  call_len_seq (by rfl) T.z_len (by decide +kernel) (pa_cons (pv 2) pa_nil)) (pe_glob (v := .int (5)) rfl h_MOST_ATOMS ⟨_, rfl⟩) (nomark _))))))
    (pss_one (ps_ret pe_bl))
    pss_nil)
  (pss_one (ps_ret (pe_callB (id := "all")  (cr_all rfl) (by rfl) T.z_all (by decide +kernel) (pa_cons (pe_lc (own := [("atom", 3)]) rfl sc__has_form.nd (pi_list (pv 2)) (blkOk_by (N := ["part", "head", "atoms", "atom"]) (sc := defScope s__has_form) (by decide +kernel)) (fun _ _ _ _ _ => pg_name (i := 3) sc__has_form.nd rfl (.inl rfl)) (fun _ _ _ _ _ => pts_nil) (fun _ _ _ _ _ => (pe_call G49 (hr.mono (by decide)) (by rfl) T.g49 T.F49.kp T.b49 .nil pass0 (pa_cons (pv 3) pa_nil)))) pa_nil))))))), ?_⟩
    refine ⟨_, rfl, _, _, _, _, _, rfl, .ty _, hty, kit_ty k1, _, rfl, ?_⟩
    cases d with
    | tuple ds =>
      obtain ⟨p, xs, k, rfl, rfl, _, hp, _, pr⟩ := hv.asTup
      have hl := Paired.length pr
      refine ifF ?_
      refine ⟨_, rfl, p, _, rfl, .inr (.of hp), rfl, _, rfl, ite_nd (fun h => ?_) (fun h => ?_)⟩
      · have q1 := q H (Same.refl H)
        rw [formD_len fun e => h (by rw [hl, e]; rfl)] at q1
        exact q1
      have h : xs.length = 2 := by have := V.int.inj h; omega
      match xs, ds, pr, h with
      | [x, y], [e, f], .cons hx (.cons hy .nil), _ =>
        refine ⟨_, rfl, p, _, rfl, .of hp, rfl, _, _, rfl, _, _, rfl, rfl, ?_⟩
        obtain ⟨nx, htx, kx, _⟩ := hx.ty (K := K)
        obtain ⟨ny, hty', _, ky, _⟩ := hy.ty (K := K)
        have no : formD (.tuple [e, f]) = false → Q (.bl false) H := fun h => by
          have q1 := q H (Same.refl H)
          rw [h] at q1
          exact q1
        refine ⟨_, rfl, _, _, _, _, _, rfl, .ty _, htx, kit_ty kx, _, rfl, ?_⟩
        cases e with
        | tuple hs =>
          refine ifF ⟨_, rfl, _, _, _, _, _, rfl, .ty _, hty', kit_ty ky, _, rfl, ?_⟩
          cases f with
          | list as =>
            obtain ⟨c, zs, k2, rfl, rfl, _, hc, l5, pc⟩ := hy.asLst
            have hlz := Paired.length pc
            have q : ∀ H', Same H H' → Q (.bl (decide (as.length ≤ 5) && as.all atomD)) H' := q
            refine ifF ⟨_, rfl, _, _, rfl, .inl (.of hc), _, _, rfl, rfl, _, rfl, ite_d (fun h5 => ?_) (fun h5 => ?_)⟩
            · have h5 : (5 : Int) < zs.length := h5
              rw [show decide (as.length ≤ 5) = false from decide_eq_false (by omega)] at q
              exact q H (Same.refl H)
            · have h5 : ¬ (5 : Int) < zs.length := h5
              rw [show decide (as.length ≤ 5) = true from decide_eq_true (by omega), Bool.true_and] at q
              refine ⟨_, rfl, c, rfl, ⟨_, .of hc⟩, fun D hD => ?_⟩
              refine lc_list (K := K) (a := c) (xs := zs) (fun i H' => H' D = some (.lst (((as.take i).map atomD).map V.bl)) ∧ Same H H') ⟨upd_same, same_upd hD⟩ (fun i H' _ hp' => .of (hp'.2 _ _ hc)) (fun i y H' hy hp' => ?_) (fun H' hp' => ?_)
              · obtain ⟨e, he, hxe⟩ := paired_at pc hy
                refine ⟨rfl, _, rfl, C, _, y, e, rfl, hxe.same hp'.2, fun H3 s3 => ?_⟩
                refine ⟨_, s3 _ _ hp'.1, ?_, ?_, fun b o eb => ?_⟩
                · rw [List.length_map, List.length_map, List.length_take]
                  exact Nat.lt_of_le_of_lt (by omega : _ ≤ 5000) (by decide)
                · rw [map_take he, List.map_append]
                  exact upd_same
                · rw [upd_ne (ne_of_none eb hD)]
                  exact s3 _ _ (hp'.2 b o eb)
              · obtain ⟨h1, h2⟩ := hp'
                rw [hlz, List.take_length] at h1
                refine ⟨D, _, rfl, .of h1, ?_⟩
                rw [show (as.map atomD).all id = as.all atomD by rw [List.all_map]; rfl]
                exact q H' h2
          | none => exact ifT (no rfl)
          | bool b => exact ifT (no rfl)
          | int b => exact ifT (no rfl)
          | str b => exact ifT (no rfl)
          | tuple b => exact ifT (no rfl)
          | dict b => exact ifT (no rfl)
        | none => exact ifT (no rfl)
        | bool b => exact ifT (no rfl)
        | int b => exact ifT (no rfl)
        | str b => exact ifT (no rfl)
        | list b => exact ifT (no rfl)
        | dict b => exact ifT (no rfl)
    | none => exact ifT (q H (Same.refl H))
    | bool b => exact ifT (q H (Same.refl H))
    | int b => exact ifT (q H (Same.refl H))
    | str b => exact ifT (q H (Same.refl H))
    | list b => exact ifT (q H (Same.refl H))
    | dict b => exact ifT (q H (Same.refl H))
end
abbrev tupI (i : Int) : PyData := .tuple [.int i]
theorem eqv_tupI {z : PyData} {i : Int} (hz : termD z = true) : PyData.eqv z (tupI i) = true ↔ z = tupI i := by
  cases z with
  | tuple ds =>
    obtain ⟨j, rfl⟩ := term_tup hz
    simp [tupI, PyData.eqv, PyData.eqvAll]
  | none => simp [tupI, PyData.eqv]
  | bool b => simp [tupI, PyData.eqv]
  | int b => simp [tupI, PyData.eqv]
  | str b => simp [tupI, PyData.eqv]
  | list b => simp [tupI, PyData.eqv]
  | dict b => simp [tupI, PyData.eqv]
theorem any_tupI {is : List Int} {i : Int} : ((is.map tupI).any fun z => PyData.eqv z (tupI i)) = decide (i ∈ is) := by
  induction is with
  | nil => rfl
  | cons j is ih =>
    rw [List.map_cons, List.any_cons, ih]
    by_cases e : j = i
    · subst e
      simp [tupI, PyData.eqv, PyData.eqvAll]
    · have e' : ¬ i = j := fun h => e h.symm
      simp [tupI, PyData.eqv, PyData.eqvAll, e, e']
theorem safe_eq {hs st : List PyData} {is js : List Int} (hh : ∀ d ∈ hs, termD d = true) (hst : ∀ d ∈ st, termD d = true) (h1 : ∀ i, i ∈ is ↔ tupI i ∈ hs) (h2 : ∀ i, i ∈ js ↔ tupI i ∈ st) :
    (hs.all fun x => !isTup x || st.any fun z => PyData.eqv z x) = (is.map fun i => decide (i ∈ js)).all id := by
  rw [Bool.eq_iff_iff, List.all_map, List.all_eq_true, List.all_eq_true]
  constructor
  · intro h i hi
    have hm := (h1 i).mp hi
    have h3 := h _ hm
    have h3 : (st.any fun z => PyData.eqv z (tupI i)) = true := h3
    obtain ⟨z, hz, e⟩ := List.any_eq_true.mp h3
    have ez := (eqv_tupI (hst z hz)).mp e
    subst ez
    exact decide_eq_true ((h2 i).mpr hz)
  · intro h x hx
    cases x with
    | tuple ds =>
      obtain ⟨i, rfl⟩ := term_tup (hh _ hx)
      have h3 : i ∈ js := of_decide_eq_true (h i ((h1 i).mpr hx))
      exact List.any_eq_true.mpr ⟨tupI i, (h2 i).mp h3, (eqv_tupI (hst _ ((h2 i).mp h3))).mpr rfl⟩
    | none => rfl
    | bool b => rfl
    | int b => rfl
    | str b => rfl
    | list b => rfl
    | dict b => rfl
theorem vars_dp {K : PySem.W.Frag} {H : Hp} {r : Addr} {bs : List Addr} {is : List Int} (h : H r = some (.lst (bs.map V.ref))) (p : Paired (fun b i => H b = some (.tup [.int i])) bs is) : Dp K H (.ref r) (.list (is.map tupI)) ∧ SeqAt.shaped (.list (is.map tupI)) = true := by
  have all : ∀ {bs : List Addr} {is : List Int}, Paired (fun b i => H b = some (.tup [.int i])) bs is → DpAll K H (bs.map V.ref) (is.map tupI) ∧ PyData.canLayAll0 (is.map tupI) = true ∧ PyData.depthAll (is.map tupI) ≤ 1 := by
    intro bs is h
    induction h with
    | nil => exact ⟨.nil, rfl, Nat.zero_le _⟩
    | cons h1 _ ih =>
      obtain ⟨i1, i2, i3⟩ := ih
      refine ⟨.cons (.tup (.of h1) (.cons (.int _) .nil)) i1, ?_, ?_⟩
      · simp only [List.map_cons, PyData.canLayAll0, i2, tupI, PyData.canLay0, Bool.and_self]
      · simp only [List.map_cons, PyData.depthAll, tupI, PyData.depth]
        omega
  obtain ⟨i1, i2, i3⟩ := all p
  refine ⟨.lst (.of h) i1, ?_⟩
  unfold SeqAt.shaped
  simp only [PyData.canLay0, i2, Bool.true_and, PyData.depth]
  exact decide_eq_true (by omega)
theorem form_data {d : PyData} (h : formD d = true) : ∃ hs as, d = .tuple [.tuple hs, .list as] ∧ as.length ≤ 5 ∧ ∀ x ∈ as, atomD x = true := by
  unfold formD at h
  split at h
  · rw [Bool.and_eq_true] at h
    exact ⟨_, _, rfl, of_decide_eq_true h.1, fun x hx => List.all_eq_true.mp h.2 x hx⟩
  · cases h
theorem name_data {ts : List (Str × Int)} {d : PyData} (h : nameD ts d = true) : ∃ s, d = .str s ∧ s ∈ ts.map (·.1) := by
  unfold nameD at h
  split at h
  · exact ⟨_, rfl, val_isy h⟩
  · cases h
theorem tab_get {ts : List (Str × Int)} {n : Nat} {m : Int} {s : Str} (hT : Tabs ts n m) (h : s ∈ ts.map (·.1)) : ∃ w, valV (tabK ts) (Sum.inr s) = some (.int w) ∧ widthAt ts s = w ∧ 1 ≤ w ∧ w ≤ m := by
  obtain ⟨b, hb, rfl⟩ := List.mem_map.mp h
  refine ⟨b.2, val_nodup (kvs := tabK ts) (by rw [keys_tab]; exact inr_nd hT.nm.nd) (Sum.inr b.1, V.int b.2) (List.mem_map.mpr ⟨b, hb, rfl⟩), widthAt_mem hT.nm.nd hb, hT.wd b hb⟩
section
variable {P : Program} {w : World} {K : PySem.W.Frag} {mg : Str → Option Value} {base : Heap} {a : Nat → Addr} {d : Nat → FuncData}
def faultV (s : Str) : V := if s = "" then .non else .str s
def spWrong : Sp := fun vs H Q _ => ∃ (C : Addr → Prop) (n : Nat) (t : Addr) (ts : List (Str × Int)) (m : Nat) (wi : Int) (v : V) (d : PyData), vs = [.ref t, .int wi, v] ∧ n ≤ 50 ∧ DctAt H t (tabK ts) ∧ Tabs ts m 4 ∧ DA C H n v d ∧ ∀ H', Same H H' → Q (faultV (faultD ts wi d)) H'
theorem ok_wrong (T : Txt K mg a d) : FnOk P w K mg base CX0 5 (a 52) (d 52) ["tables", "width", "part"] spWrong := by
  have G50 : FnOk P w K mg base CX0 2 (a 50) (d 50) ["part"] (spDB formD) := ok_has_form T
  have G51 : FnOk P w K mg base CX0 4 (a 51) (d 51) ["terms", "many"] spAreTerms := ok_are_terms T
  have G19 : FnOk P w K mg base CX0 2 (a 19) (d 19) ["atoms"] spAVars := ok_avars T
  have G18 : FnOk P w K mg base CX0 1 (a 18) (d 18) ["terms"] spVars := ok_vars T
  refine T.F52.ok sc__wrong_part (fun vs H Q E h => ?_) (fun cdv A outer s H vs Q E hr h => ?_)
  · obtain ⟨C, n, t, ts, m, wi, v, d, rfl, _⟩ := h
    rfl
  · obtain ⟨C, n, t, ts, m, wi, v, d, rfl, hn50, ht, hT, hv, q⟩ := h
    have hu := hu_of hr
    refine ⟨_, (pss_cons (ps_if (pt_not (pt_val (pe_call G50 (hr.mono (by decide)) (by rfl) T.g50 T.F50.kp T.b50 .nil pass0 (pa_cons (pv 2) pa_nil))))
    (pss_one (ps_ret pe_str))
    pss_nil)
  (pss_cons (ps_asg (pv 2) (pg_tup rfl (pgs_cons (pg_name (i := 3) sc__wrong_part.nd rfl (.inl rfl)) (pgs_cons (pg_name (i := 4) sc__wrong_part.nd rfl (.inl rfl)) pgs_nil))))
  (pss_cons (ps_if (pt_not (pt_val (pe_call G51 (hr.mono (by decide)) (by rfl) T.g51 T.F51.kp T.b51 .nil pass0 (pa_cons (pv 3) (pa_cons (pv 1) pa_nil)))))
    (pss_one (ps_ret pe_str))
    pss_nil)
  (pss_cons (ps_if (pt_not (pt_val (pe_callB (id := "all")  (cr_all rfl) (by rfl) T.z_all (by decide +kernel) (pa_cons (pe_lc (own := [("name", 6), ("_", 7)]) rfl sc__wrong_part.nd (pi_list (pv 4)) (blkOk_by (N := ["tables", "width", "part", "head", "atoms", "bound", "name", "_", "terms", "variable"]) (sc := defScope s__wrong_part) (by decide +kernel)) (fun _ _ _ _ _ => pg_tupK (K := K) 2 rfl (by rfl) (pgs_cons (pg_name (i := 6) sc__wrong_part.nd rfl (.inl rfl)) (pgs_cons (pg_name (i := 7) sc__wrong_part.nd rfl (.inl rfl)) pgs_nil))) (fun _ _ _ _ _ => pts_nil) (fun _ _ _ _ _ => (pe_and (pe_callB (id := "isinstance") (r := rIsi K)  call_isi (by rfl) T.z_isinstance (by decide +kernel) (pa_cons (pv 6) (pa_cons (pe_bltn (v := .ty "str") (by rfl) T.z_str (by decide +kernel) rfl) pa_nil))) (pe_one (pe_cmp (pc_din (hu_of hr) (pv 6) (pv 0)) rfl))))) pa_nil))))
    (pss_one (ps_ret pe_str))
    pss_nil)
  (pss_cons (ps_if (pt_not (pt_val (pe_callB (id := "all")  (cr_all rfl) (by rfl) T.z_all (by decide +kernel) (pa_cons (pe_lc (own := [("name", 6), ("terms", 8)]) rfl sc__wrong_part.nd (pi_list (pv 4)) (blkOk_by (N := ["tables", "width", "part", "head", "atoms", "bound", "name", "_", "terms", "variable"]) (sc := defScope s__wrong_part) (by decide +kernel)) (fun _ _ _ _ _ => pg_tupK (K := K) 2 rfl (by rfl) (pgs_cons (pg_name (i := 6) sc__wrong_part.nd rfl (.inl rfl)) (pgs_cons (pg_name (i := 8) sc__wrong_part.nd rfl (.inl rfl)) pgs_nil))) (fun _ _ _ _ _ => pts_nil) (fun _ _ _ _ _ => (pe_call G51 (hr.mono (by decide)) (by rfl) T.g51 T.F51.kp T.b51 .nil pass0 (pa_cons (pv 8) (pa_cons (pe_dget (hu_of hr) (pv 0) (pv 6) (fun _ _ => rfl)) pa_nil))))) pa_nil))))
    (pss_one (ps_ret pe_str))
    pss_nil)
  (pss_cons (ps_set (i := 5) sc__wrong_part.nd rfl (.inr rfl) (pe_call G19 (hr.mono (by decide)) (by rfl) T.g19 T.F19.kp T.b19 .nil pass0 (pa_cons (pv 4) pa_nil)))
  (pss_one (ps_ret (pe_ifExp (pt_val (pe_callB (id := "all")  (cr_all rfl) (by rfl) T.z_all (by decide +kernel) (pa_cons (pe_lc (own := [("variable", 9)]) rfl sc__wrong_part.nd (pi_list (pe_call G18 (hr.mono (by decide)) (by rfl) T.g18 T.F18.kp T.b18 .nil pass0 (pa_cons (pv 3) pa_nil))) (blkOk_by (N := ["tables", "width", "part", "head", "atoms", "bound", "name", "_", "terms", "variable"]) (sc := defScope s__wrong_part) (by decide +kernel)) (fun _ _ _ _ _ => pg_name (i := 9) sc__wrong_part.nd rfl (.inl rfl)) (fun _ _ _ _ _ => pts_nil) (fun _ _ _ _ _ => (pe_cmpR (r := rInD K) (op_inD (hu_of65 hr)) (pv 9) (pv 5) (by rfl)))) pa_nil))) pe_non pe_str))))))))), ?_⟩
    refine ⟨_, rfl, C, n, v, d, rfl, hv, fun H1 s1 => ⟨_, rfl, ?_⟩⟩
    cases ef : formD d with
    | false =>
      refine ifT ?_
      have q1 := q H1 s1
      unfold faultD at q1
      rw [if_pos ef] at q1
      exact q1
    | true =>
    refine ifF ?_
    obtain ⟨hs, as, rfl, a5, hat⟩ := form_data ef
    unfold faultD at q
    rw [if_neg (by rw [ef]; decide)] at q
    obtain ⟨p, xs, k, rfl, rfl, _, hp, _, pr⟩ := (hv.same s1).asTup
    match xs, pr with
    | [x, y], .cons hx (.cons hy .nil) =>
    refine ⟨_, rfl, p, _, rfl, .of hp, rfl, _, _, rfl, _, _, rfl, rfl, ?_⟩
    refine ⟨_, rfl, _, rfl, C, k, x, hs, wi, rfl, hx, fun H2 s2 => ⟨_, rfl, ?_⟩⟩
    have s12 := s1.trans s2
    cases eh : termsD wi hs with
    | false =>
      refine ifT ?_
      have q1 := q H2 s12
      rw [if_pos (show termsD wi (headOf (.tuple [.tuple hs, .list as])) = false from eh)] at q1
      exact q1
    | true =>
    refine ifF ?_
    rw [if_neg (show ¬ termsD wi (headOf (.tuple [.tuple hs, .list as])) = false by show ¬ termsD wi hs = false; rw [eh]; decide)] at q
    have hy2 := hy.same s2
    obtain ⟨c, zs, k2, rfl, rfl, nC, hc, l5, pc⟩ := hy2.asLst
    have hlz := Paired.length pc
    have ht2 := ht.same s12
    have ndk : ((tabK ts).map (·.1)).Nodup := by rw [keys_tab]; exact inr_nd hT.nm.nd
    -- the names
    refine ⟨_, rfl, c, rfl, ⟨_, .of hc⟩, fun D hD => ?_⟩
    refine lc_list (K := K) (a := c) (xs := zs) (fun i H' => H' D = some (.lst (((as.take i).map fun x => nameD ts (atName x)).map V.bl)) ∧ Same H2 H') ⟨upd_same, same_upd hD⟩ (fun i H' _ hp' => .of (hp'.2 _ _ hc)) (fun i z H' hz hp' => ?_) (fun H3 hp' => ?_)
    · obtain ⟨e, he, hze⟩ := paired_at pc hz
      have li : i < zs.length := (List.getElem?_eq_some_iff.mp hz).1
      obtain ⟨nmD, tsD, rfl⟩ := atom_data (hat e (List.mem_of_getElem? he))
      obtain ⟨b, us, k', rfl, rfl, _, hb, _, pb⟩ := (hze.same hp'.2).asTup
      match us, pb with
      | [u, y], .cons hu' (.cons hy' .nil) =>
      obtain ⟨nu, htu, _, _, ku, _⟩ := hu'.ty (K := K)
      refine ⟨b, _, rfl, .of hb, rfl, _, _, rfl, _, _, rfl, rfl, rfl, ?_⟩
      have fin : ∀ bv, bv = nameD ts nmD → H' D = some (.lst (((as.take i).map fun x => nameD ts (atName x)).map V.bl)) ∧ (((as.take i).map fun x => nameD ts (atName x)).map V.bl).length < sizeLine ∧ upd H' D (.lst (((as.take i).map fun x => nameD ts (atName x)).map V.bl ++ [.bl bv])) D = some (.lst (((as.take (i + 1)).map fun x => nameD ts (atName x)).map V.bl)) ∧ Same H2 (upd H' D (.lst (((as.take i).map fun x => nameD ts (atName x)).map V.bl ++ [.bl bv]))) := fun bv eb => by
        refine ⟨hp'.1, ?_, ?_, fun x o ex => ?_⟩
        · rw [List.length_map, List.length_map, List.length_take]
          exact Nat.lt_of_le_of_lt (by omega : _ ≤ 5000) (by decide)
        · rw [map_take he, List.map_append, eb]
          exact upd_same
        · rw [upd_ne (ne_of_none ex hD)]
          exact hp'.2 x o ex
      refine ⟨_, rfl, _, _, _, _, _, rfl, .ty _, htu, kit_ty ku, _, rfl, ?_⟩
      cases nmD with
      | str s =>
        obtain ⟨rfl, _⟩ := hu'.asStr
        exact ifT ⟨_, rfl, _, rfl, t, _, rfl, (ht2.same hp'.2).get ndk (Sum.inr s), _, fin _ rfl⟩
      | none => exact ifF ⟨_, fin _ rfl⟩
      | bool b => exact ifF ⟨_, fin _ rfl⟩
      | int b => exact ifF ⟨_, fin _ rfl⟩
      | tuple b => exact ifF ⟨_, fin _ rfl⟩
      | list b => exact ifF ⟨_, fin _ rfl⟩
      | dict b => exact ifF ⟨_, fin _ rfl⟩
    obtain ⟨h1, s3⟩ := hp'
    rw [hlz, List.take_length] at h1
    refine ⟨D, _, rfl, .of h1, _, rfl, ?_⟩
    rw [show (as.map fun x => nameD ts (atName x)).all id = as.all fun x => nameD ts (atName x) by rw [List.all_map]; rfl]
    have s13 := s12.trans s3
    clear h1 hD
    cases en : (as.all fun x => nameD ts (atName x)) with
    | false =>
      refine ifT ?_
      have q1 := q H3 s13
      rw [if_pos (show ((atomsOf (.tuple [.tuple hs, .list as])).all fun x => nameD ts (atName x)) = false from en)] at q1
      exact q1
    | true =>
    refine ifF ?_
    rw [if_neg (show ¬ ((atomsOf (.tuple [.tuple hs, .list as])).all fun x => nameD ts (atName x)) = false by show ¬ (as.all fun x => nameD ts (atName x)) = false; rw [en]; decide)] at q
    have hn : ∀ x ∈ as, nameD ts (atName x) = true := fun x hx => List.all_eq_true.mp en x hx
    have pc3 := paired_imp (fun _ _ h => DA.same h s3) pc
    have hc3 := s3 _ _ hc
    have ht3 := ht2.same s3
    clear pc hc
    -- the terms
    refine ⟨_, rfl, c, rfl, ⟨_, .of hc3⟩, fun D hD => ?_⟩
    refine lc_list (K := K) (a := c) (xs := zs) (fun i H' => H' D = some (.lst (((as.take i).map fun x => termsD (wdD ts (atName x)) (atTerms x)).map V.bl)) ∧ Same H3 H') ⟨upd_same, same_upd hD⟩ (fun i H' _ hp' => .of (hp'.2 _ _ hc3)) (fun i z H' hz hp' => ?_) (fun H4 hp' => ?_)
    · obtain ⟨e, he, hze⟩ := paired_at pc3 hz
      have li : i < zs.length := (List.getElem?_eq_some_iff.mp hz).1
      have hem := List.mem_of_getElem? he
      obtain ⟨nmD, tsD, rfl⟩ := atom_data (hat e hem)
      obtain ⟨s0, e0, hs0⟩ := name_data (hn _ hem)
      have e0 : nmD = .str s0 := e0
      subst e0
      obtain ⟨w0, v0, wa, _, _⟩ := tab_get hT hs0
      obtain ⟨b, us, k', rfl, rfl, _, hb, _, pb⟩ := (hze.same hp'.2).asTup
      match us, pb with
      | [u, y], .cons hu' (.cons hy' .nil) =>
      obtain ⟨rfl, _⟩ := hu'.asStr
      refine ⟨b, _, rfl, .of hb, rfl, _, _, rfl, _, _, rfl, rfl, rfl, ?_⟩
      have g := (ht3.same hp'.2).get ndk (Sum.inr s0)
      rw [v0] at g
      refine ⟨_, rfl, _, rfl, _, rfl, t, _, rfl, g, C, k', y, tsD, w0, rfl, hy', fun H5 s5 => ?_⟩
      refine ⟨_, s5 _ _ hp'.1, ?_, ?_, fun x o ex => ?_⟩
      · rw [List.length_map, List.length_map, List.length_take]
        exact Nat.lt_of_le_of_lt (by omega : _ ≤ 5000) (by decide)
      · rw [map_take he, List.map_append, show termsD (wdD ts (atName (.tuple [.str s0, .tuple tsD]))) (atTerms (.tuple [.str s0, .tuple tsD])) = termsD w0 tsD by show termsD (widthAt ts s0) tsD = _; rw [wa]]
        exact upd_same
      · rw [upd_ne (ne_of_none ex hD)]
        exact s5 _ _ (hp'.2 x o ex)
    obtain ⟨h1, s4⟩ := hp'
    rw [hlz, List.take_length] at h1
    refine ⟨D, _, rfl, .of h1, _, rfl, ?_⟩
    rw [show (as.map fun x => termsD (wdD ts (atName x)) (atTerms x)).all id = as.all fun x => termsD (wdD ts (atName x)) (atTerms x) by rw [List.all_map]; rfl]
    have s14 := s13.trans s4
    clear h1 hD
    cases et : (as.all fun x => termsD (wdD ts (atName x)) (atTerms x)) with
    | false =>
      refine ifT ?_
      have q1 := q H4 s14
      rw [if_pos (show ((atomsOf (.tuple [.tuple hs, .list as])).all fun x => termsD (wdD ts (atName x)) (atTerms x)) = false from et)] at q1
      exact q1
    | true =>
    refine ifF ?_
    rw [if_neg (show ¬ ((atomsOf (.tuple [.tuple hs, .list as])).all fun x => termsD (wdD ts (atName x)) (atTerms x)) = false by show ¬ (as.all fun x => termsD (wdD ts (atName x)) (atTerms x)) = false; rw [et]; decide)] at q
    have hts : ∀ x ∈ as, (atTerms x).length ≤ 4 ∧ ∀ y ∈ atTerms x, termD y = true := fun x hx => by
      have h1 := List.all_eq_true.mp et x hx
      obtain ⟨s0, e0, hs0⟩ := name_data (hn x hx)
      obtain ⟨w0, v0, wa, _, w4⟩ := tab_get hT hs0
      unfold termsD at h1
      rw [Bool.and_eq_true, e0] at h1
      have h2 := of_decide_eq_true h1.1
      have h2 : ((atTerms x).length : Int) = widthAt ts s0 := h2
      exact ⟨by omega, fun y hy => List.all_eq_true.mp h1.2 y hy⟩
    have aok : AtsOk as := ⟨a5, fun x hx => ⟨hat x hx, by have := (hts x hx).1; omega, (hts x hx).2⟩⟩
    have hd : ∀ y ∈ hs, termD y = true := by
      unfold termsD at eh
      rw [Bool.and_eq_true] at eh
      exact fun y hy => List.all_eq_true.mp eh.2 y hy
    have s24 := s3.trans s4
    refine ⟨_, rfl, C, _, _, as, rfl, DA.same hy2 s24, aok, fun r H5 hr5 s5 => ?_⟩
    have hx5 := hx.same ((s2.trans s24).trans s5)
    obtain ⟨g, gs, k3, ek, rfl, _, hg, g5, pg⟩ := hx5.asTup
    refine ⟨_, rfl, C, _, g, gs, hs, rfl, .inr hg, pg, hd, by omega, fun r2 H6 hr6 s6 => ?_⟩
    obtain ⟨bs, is, r1, r2', r3, r4⟩ := hr6
    obtain ⟨bs5, is5, t1, t2, t3, t4⟩ := hr5
    have hls := Paired.length r2'
    have lhs : hs.length ≤ 5000 := by rw [← Paired.length pg]; exact g5
    refine ⟨r2, rfl, ⟨_, .of r1⟩, fun D hD => ?_⟩
    refine lc_list (K := K) (a := r2) (xs := bs.map V.ref) (fun i H' => H' D = some (.lst (((is.take i).map fun i => decide (i ∈ is5)).map V.bl)) ∧ Same H6 H') ⟨upd_same, same_upd hD⟩ (fun i H' _ hp' => .of (hp'.2 _ _ r1)) (fun i z H' hz hp' => ?_) (fun H7 hp' => ?_)
    · obtain ⟨b, hb, rfl⟩ := map_at hz
      have li : i < bs.length := (List.getElem?_eq_some_iff.mp hb).1
      obtain ⟨iz, hiz, hbz⟩ := paired_at r2' hb
      have hb7 := hp'.2 _ _ hbz
      obtain ⟨dp, sh⟩ := vars_dp (K := K) (hp'.2 _ _ (s6 _ _ t1)) (paired_imp (fun _ _ h => hp'.2 _ _ (s6 _ _ h)) t2)
      refine ⟨rfl, _, rfl, _, rfl, tupI iz, _, .tup (.of hb7) (.cons (.int iz) .nil), dp, by show SeqAt.shaped (.tuple [.int iz]) = true; simp [SeqAt.shaped, PyData.canLay0, PyData.canLayAll0, PyData.depth, PyData.depthAll], sh, ?_⟩
      rw [any_tupI]
      refine ⟨_, hp'.1, ?_, ?_, fun x o ex => ?_⟩
      · rw [List.length_map, List.length_map, List.length_take]
        exact Nat.lt_of_le_of_lt (by omega : _ ≤ 5000) (by decide)
      · rw [map_take hiz, List.map_append]
        exact upd_same
      · rw [upd_ne (ne_of_none ex hD)]
        exact hp'.2 x o ex
    obtain ⟨h1, s7⟩ := hp'
    rw [List.length_map, hls, List.take_length] at h1
    refine ⟨D, _, rfl, .of h1, _, rfl, ?_⟩
    have es : safeD (.tuple [.tuple hs, .list as]) = (is.map fun i => decide (i ∈ is5)).all id := safe_eq hd (fun y hy => by
      have hy : y ∈ as.flatMap atTerms := hy
      obtain ⟨x, hx, hy⟩ := List.mem_flatMap.mp hy
      exact (hts x hx).2 y hy) r3 t3
    have s17 := (((s14.trans s5).trans s6).trans s7)
    rw [← es]
    have q1 := q H7 s17
    cases e : safeD (.tuple [.tuple hs, .list as]) with
    | true =>
      rw [e, if_neg (by decide)] at q1
      exact ifT q1
    | false =>
      rw [e, if_pos rfl] at q1
      exact ifF q1
end
theorem firstD_none {ts : List (Str × Int)} {w : Int} : ∀ {ds : List PyData} {k : Nat}, (∀ d ∈ ds, faultD ts w d = "") → firstD ts w ds k = none
  | [], _, _ => rfl
  | d :: r, k, h => by
    unfold firstD
    rw [if_pos (h d (by simp))]
    exact firstD_none fun x hx => h x (by simp [hx])
theorem firstD_at {ts : List (Str × Int)} {w : Int} : ∀ {ds : List PyData} {k i : Nat} {d : PyData}, (∀ x ∈ ds.take i, faultD ts w x = "") → ds[i]? = some d → faultD ts w d ≠ "" → firstD ts w ds k = some (faultD ts w d, k + i)
  | [], _, _, _, _, h, _ => by simp at h
  | x :: r, k, 0, d, _, h, ne => by
    cases h
    unfold firstD
    rw [if_neg ne]
    rfl
  | x :: r, k, i + 1, d, hb, h, ne => by
    unfold firstD
    rw [if_pos (hb x (by simp)), firstD_at (i := i) (fun y hy => hb y (by simp [hy])) (by simpa using h) ne]
    rw [show k + 1 + i = k + (i + 1) by omega]
def DueV (H : Hp) : Option (Str × Int) → V → Prop
  | none, u => u = .non
  | some (s, i), u => ∃ r, u = .ref r ∧ H r = some (.tup [.str s, .int i])
theorem due_w {ts : List (Str × Int)} {wd pd : PyData} (h : widthD wd = none) : dueD ts wd pd = some (("width" : Str), (-1 : Int)) := by
  unfold dueD
  rw [h]
theorem due_p {ts : List (Str × Int)} {wi : Int} {wd pd : PyData} (h : widthD wd = some wi) (hp : ∀ ds, pd = .list ds → ¬ ds.length ≤ 4000) : dueD ts wd pd = some (("parts" : Str), (-1 : Int)) := by
  unfold dueD
  rw [h]
  cases pd with
  | list ds => exact if_neg (hp ds rfl)
  | _ => rfl
theorem due_l {ts : List (Str × Int)} {wi : Int} {wd : PyData} {ds : List PyData} (h : widthD wd = some wi) (hp : ds.length ≤ 4000) : dueD ts wd (.list ds) = (firstD ts wi ds 0).map fun z => (z.1, (z.2 : Int)) := by
  unfold dueD
  rw [h]
  exact if_pos hp
section
variable {P : Program} {w : World} {K : PySem.W.Frag} {mg : Str → Option Value} {base : Heap} {a : Nat → Addr} {d : Nat → FuncData}
def spDue : Sp := fun vs H Q _ => ∃ (C : Addr → Prop) (n : Nat) (t : Addr) (ts : List (Str × Int)) (m : Nat) (xw xp : V) (wd pd : PyData), vs = [.ref t, xw, xp] ∧ n ≤ 50 ∧ H t = some (.dK (tabK ts)) ∧ ts.length ≤ 5 ∧ Tabs ts m 4 ∧ DA C H n xw wd ∧ DA C H n xp pd ∧ ∀ u H', DueV H' (dueD ts wd pd) u → Same H H' → Q u H'
theorem ok_iqinit (T : Txt K mg a d) : FnOk P w K mg base CX0 1 (a 1700) (d 1700) ["self", "part", "at"] (spI2 (a 7) "part" "at") := by
  refine T.F1700.ok sc_InvalidQuestion___init__ (fun vs H Q E h => ?_) (fun cdv A outer s H vs Q E hr h => ?_)
  · obtain ⟨x, u, v, rfl, _⟩ := h
    rfl
  · obtain ⟨x, u, v, rfl, hx, q⟩ := h
    refine ⟨_, (pss_cons (ps_ost (pv 0) (pv 1))
  (pss_one (ps_ost (pv 0) (pv 2)))), _, rfl, _, rfl, x, _, rfl, T.x_7, T.no_7_part, .inl ⟨hx, fun dx hdx ne => ?_⟩⟩
    have e1 : upd (upd H dx (exd dx [(("part" : Str), u)])) x (exo x (a 7) (some dx)) dx = some (exd dx [(("part" : Str), u)]) := by rw [upd_ne ne]; exact upd_same
    refine ⟨_, rfl, _, rfl, x, _, rfl, T.x_7, T.no_7_at, .inr ⟨dx, _, upd_same, e1, by show 1 ≤ 900; decide, q dx _ hdx ne ?_ upd_same fun b o nb nd e => ?_⟩⟩
    · rw [upd_ne ne.symm]
      exact upd_same
    · rw [upd_ne nd, upd_ne nb, upd_ne nd]
      exact e
def spChkQ (CS CE : Addr) : Sp := fun vs H Q E => ∃ (C : Addr → Prop) (n : Nat) (sp : Addr) (ts : List (Str × Int)) (ks : List KeyE) (ss : List SvE) (m ms : Nat) (xw xp : V) (wd pd : PyData), vs = [.ref sp, xw, xp] ∧ n ≤ 50 ∧ SchAt CS sp H ts ks ss m ms ∧ DA C H n xw wd ∧ DA C H n xp pd ∧
  (dueD ts wd pd = none → ∀ H', Same H H' → Q .non H') ∧ (∀ s i, dueD ts wd pd = some (s, i) → ∀ H', Same H H' → Er2 CE "part" "at" (.str s) (.int i) H' E)
theorem ok_chkq (T : Txt K mg a d) : FnOk P w K mg base (L2.CX P w) 6 (a 53) (d 53) ["schema", "width", "parts"] (spChkQ (a 43) (a 7)) := by
  have G12 : FnOk P w K mg base CX0 1 (a 12) (d 12) ["thing"] (spB plainV) := ok_plain T
  have G52 : FnOk P w K mg base CX0 5 (a 52) (d 52) ["tables", "width", "part"] spWrong := ok_wrong T
  have G5301 : FnOk P w K mg base CX0 1 (a 5301) (d 5301) ["self"] (spProp (a 43) fun ts _ _ => tabK ts) := ok_p_tables T
  have G1700 : FnOk P w K mg base CX0 1 (a 1700) (d 1700) ["self", "part", "at"] (spI2 (a 7) "part" "at") := ok_iqinit T
  refine T.F53.okX sc__check_question (fun vs H Q E h => ?_) (fun cdv A outer s H vs Q E hr h => ?_)
  · obtain ⟨C, n, sp, ts, ks, ss, m, ms, xw, xp, wd, pd, rfl, _⟩ := h
    rfl
  · obtain ⟨C, n, sp, ts, ks, ss, m, ms, xw, xp, wd, pd, rfl, n50, hS, hw, hp, q0, q1⟩ := h
    obtain ⟨t1, h_MOST_WIDTH_questions⟩ := T.c_MOST_WIDTH_questions
    obtain ⟨t2, h_MOST_PARTS⟩ := T.c_MOST_PARTS
    refine ⟨_, (pss_cons (ps_if (PW.pt (pw_or (pt_not (pt_val (pe_call G12 (hr.mono (by decide)) (by rfl) T.g12 T.F12.kp T.b12 .nil pass0 (pa_cons (pv 1) pa_nil)))) (pw_or1 (pt_not (pt_chain op_le op_le pe_int (pv 1) (pe_glob (v := .int (12)) rfl h_MOST_WIDTH_questions ⟨_, rfl⟩))))))
    (pss_one (ps_raise rfl (takes_of rfl rfl rfl rfl) (pmk_oex T.x_7 T.in_7 T.ti_7 G1700 (hr.mono (by decide)) T.b1700 .nil pass0 (by rfl) T.cg_7 (pa_cons pe_str (pa_cons (pe_un un_neg pe_int) pa_nil)))))
    pss_nil)
  (pss_cons (ps_if (PW.pt (pw_or (pt_not (pt_val (pe_callB (id := "isinstance")  call_isi (by rfl) T.z_isinstance (by decide +kernel) (pa_cons (pv 2) (pa_cons (pe_bltn (v := .ty "list") (by rfl) T.z_list (by decide +kernel) rfl) pa_nil))))) (pw_or1 (pt_cmpR op_gt (pe_callB (id := "len")  call_len_seq (by rfl) T.z_len (by decide +kernel) (pa_cons (pv 2) pa_nil)) (pe_glob (v := .int (4000)) rfl h_MOST_PARTS ⟨_, rfl⟩) (nomark _)))))
    (pss_one (ps_raise rfl (takes_of rfl rfl rfl rfl) (pmk_oex T.x_7 T.in_7 T.ti_7 G1700 (hr.mono (by decide)) T.b1700 .nil pass0 (by rfl) T.cg_7 (pa_cons pe_str (pa_cons (pe_un un_neg pe_int) pa_nil)))))
    pss_nil)
  (pss_cons (ps_set (i := 3) sc__check_question.nd rfl (.inl rfl) (pe_prop (pv 0) T.cl_43 T.p_5301 G5301 (hr.mono (by decide)) T.b5301 .nil pass0 rfl))
  (pss_one (ps_for (passes_of rfl) rfl (pi_enum (by rfl) T.z_enumerate (pa_cons (pv 2) pa_nil)) (pg_tup rfl (pgs_cons (pg_name (i := 4) sc__check_question.nd rfl (.inl rfl)) (pgs_cons (pg_name (i := 5) sc__check_question.nd rfl (.inl rfl)) pgs_nil)))
    (pss_cons (ps_set (i := 6) sc__check_question.nd rfl (.inl rfl) (pe_call G52 (hr.mono (by decide)) (by rfl) T.g52 T.F52.kp T.b52 .nil pass0 (pa_cons (pv 3) (pa_cons (pv 1) (pa_cons (pv 5) pa_nil)))))
      (pss_one (ps_if (pt_cmpR op_notN (pv 6) pe_non (nomark _))
        (pss_one (ps_raise rfl (takes_of rfl rfl rfl rfl) (pmk_oex T.x_7 T.in_7 T.ti_7 G1700 (hr.mono (by decide)) T.b1700 .nil pass0 (by rfl) T.cg_7 (pa_cons (pv 6) (pa_cons (pv 4) pa_nil)))))
        pss_nil)))))))), ?_⟩
    have badw : widthD wd = none → ∀ H', Same H H' → Er2 (a 7) "part" "at" (.str "width") (.int (-1)) H' E := fun h => q1 _ _ (due_w h)
    refine ⟨_, rfl, xw, rfl, hw.thg, fun H1 s1 => ⟨_, rfl, ?_⟩⟩
    rw [hw.plain]
    cases wd with
    | none => exact ifT ⟨_, rfl, er2_raise (badw rfl H1 s1)⟩
    | str b => exact ifT ⟨_, rfl, er2_raise (badw rfl H1 s1)⟩
    | tuple b => exact ifT ⟨_, rfl, er2_raise (badw rfl H1 s1)⟩
    | list b => exact ifT ⟨_, rfl, er2_raise (badw rfl H1 s1)⟩
    | dict b => exact ifT ⟨_, rfl, er2_raise (badw rfl H1 s1)⟩
    | bool b => exact ifT ⟨_, rfl, er2_raise (badw rfl H1 s1)⟩
    | int wi =>
    have := hw.asInt
    subst this
    refine ifF ⟨_, rfl, _, _, rfl, rfl, _, rfl, ite_d (fun h1 => ?_) (fun h1 => ?_)⟩
    rotate_left
    · have h1 : ¬ 0 ≤ wi := h1
      exact ⟨_, rfl, _, rfl, er2_raise (badw (if_neg fun z => h1 z.1) H1 s1)⟩
    have h1 : 0 ≤ wi := h1
    refine ⟨_, _, rfl, rfl, _, rfl, ite_nd (fun h2 => ?_) (fun h2 => ?_)⟩
    · have h2 : ¬ wi ≤ 12 := h2
      exact ⟨_, rfl, er2_raise (badw (if_neg fun z => h2 z.2) H1 s1)⟩
    have h2 : wi ≤ 12 := h2
    have ew : widthD (.int wi) = some wi := if_pos ⟨h1, h2⟩
    clear badw
    have badp : (∀ ds, pd = .list ds → ¬ ds.length ≤ 4000) → Er2 (a 7) "part" "at" (.str "parts") (.int (-1)) H1 E := fun h => q1 _ _ (due_p ew h) H1 s1
    have hp1 := hp.same s1
    obtain ⟨np, htp, _, kpl, _⟩ := hp1.ty (K := K)
    refine ⟨_, rfl, _, _, _, _, _, rfl, .ty _, htp, kit_ty kpl, _, rfl, ?_⟩
    cases pd with
    | none => exact ifT ⟨_, rfl, er2_raise (badp fun ds e => nomatch e)⟩
    | str b => exact ifT ⟨_, rfl, er2_raise (badp fun ds e => nomatch e)⟩
    | tuple b => exact ifT ⟨_, rfl, er2_raise (badp fun ds e => nomatch e)⟩
    | int b => exact ifT ⟨_, rfl, er2_raise (badp fun ds e => nomatch e)⟩
    | dict b => exact ifT ⟨_, rfl, er2_raise (badp fun ds e => nomatch e)⟩
    | bool b => exact ifT ⟨_, rfl, er2_raise (badp fun ds e => nomatch e)⟩
    | list ds =>
    obtain ⟨l, xs, k, rfl, rfl, _, hl, l5, pr⟩ := hp1.asLst
    have hlen := Paired.length pr
    refine ifF ⟨_, rfl, _, _, rfl, .inl (.of hl), _, _, rfl, rfl, _, rfl, ite_d (fun h => ?_) (fun h => ?_)⟩
    · have h : (4000 : Int) < xs.length := h
      exact ⟨_, rfl, er2_raise (badp fun ds' e => by cases e; omega)⟩
    have h : ¬ (4000 : Int) < xs.length := h
    have l4 : ds.length ≤ 4000 := by omega
    clear badp
    rw [due_l ew l4] at q0 q1
    obtain ⟨dx, d1, d2, d3, O⟩ := hS.same s1
    refine ⟨_, rfl, sp, dx, _, rfl, O.ob, sp, ts, ks, ss, m, ms, rfl, hS.same s1, fun D H2 hD hdc s2 => ?_⟩
    have s12 := s1.trans s2
    have hl2 := s2 _ _ hl
    refine ⟨_, rfl, l, _, rfl, .of hl2, ?_⟩
    refine for_it (walk_enum (K := K) (a := l) (xs := xs)) (fun i σ H' => ∃ (y4 y5 y6 : Option V), σ = [some (.ref sp), some (.int wi), some (.ref l), some (.ref D), y4, y5, y6] ∧ (∀ x ∈ ds.take i, faultD ts wi x = "") ∧ Same H2 H')
      ⟨none, none, none, rfl, (fun x h => by cases h), Same.refl H2⟩ (fun i σ H' _ hp' => ?_) (fun i v σ H' H'' hi hp' hy => ?_) (fun σ H' hp' => ?_)
    · obtain ⟨y3, y4, y5, rfl, _, s⟩ := hp'
      exact .of (s _ _ hl2)
    · obtain ⟨y3, y4, y5, rfl, hall, s⟩ := hp'
      obtain ⟨T', u1, u2, rfl, hT', rfl, hu1, hu2⟩ := hy
      cases hu1
      have sT := same_upd (o := .tup [.int ((i : Nat) : Int), u2]) hT'
      have s4 := s.trans sT
      have s14 := s12.trans s4
      obtain ⟨e, he, hue⟩ := paired_at pr hu2
      refine ⟨T', _, rfl, .of upd_same, rfl, _, _, rfl, _, _, rfl, rfl, ?_⟩
      refine ⟨_, rfl, _, rfl, _, rfl, C, k, D, ts, m, wi, u2, e, rfl, by omega, hdc.same s4, O.hT, (hue.same s2).same s4, fun H5 s5 => ?_⟩
      unfold faultV
      by_cases hf : faultD ts wi e = ""
      · rw [if_pos hf]
        refine ⟨_, rfl, rfl, _, rfl, ite_nd (fun hne => absurd rfl hne) (fun _ => ?_)⟩
        refine ⟨_, _, _, rfl, fun x hx => ?_, s4.trans s5⟩
        rw [take_snoc he] at hx
        rcases List.mem_append.mp hx with hx | hx
        · exact hall x hx
        · rw [List.mem_singleton.mp hx]
          exact hf
      · rw [if_neg hf]
        refine ⟨_, rfl, rfl, _, rfl, ite_nd (fun _ => ?_) (fun e => nomatch e)⟩
        refine ⟨_, rfl, _, rfl, er2_raise (q1 (faultD ts wi e) i ?_ H5 (s14.trans s5))⟩
        rw [firstD_at (k := 0) hall he hf, Nat.zero_add]
        rfl
    · obtain ⟨y3, y4, y5, rfl, hall, s⟩ := hp'
      rw [hlen, List.take_length] at hall
      refine q0 ?_ H' (s12.trans s)
      rw [firstD_none hall]
      rfl
end
def fldsQ (sp : Addr) (xw : V) (l : Addr) : List (Str × V) := putF "_parts" (.ref l) (putF "width" xw (putF "schema" (.ref sp) []))
theorem flds_qs (sp : Addr) (xw : V) (l : Addr) : (fldsQ sp xw l).lookup ("schema" : Str) = some (V.ref sp) := rfl
theorem flds_qw (sp : Addr) (xw : V) (l : Addr) : (fldsQ sp xw l).lookup ("width" : Str) = some xw := rfl
theorem flds_qp (sp : Addr) (xw : V) (l : Addr) : (fldsQ sp xw l).lookup ("_parts" : Str) = some (V.ref l) := rfl
theorem due_none {ts : List (Str × Int)} {wd pd : PyData} (h : dueD ts wd pd = none) : ∃ wi ds, wd = .int wi ∧ pd = .list ds ∧ ∀ x ∈ ds, formD x = true := by
  unfold dueD at h
  cases ew : widthD wd with
  | none => rw [ew] at h; cases h
  | some wi =>
    have e1 : wd = .int wi := by
      unfold widthD at ew
      split at ew
      · split at ew
        · cases ew; rfl
        · cases ew
      · cases ew
    rw [ew] at h
    cases pd with
    | list ds =>
      refine ⟨wi, ds, e1, rfl, ?_⟩
      have h : (if ds.length ≤ 4000 then (firstD ts wi ds 0).map fun z => (z.1, (z.2 : Int)) else some (("parts" : Str), (-1 : Int))) = none := h
      split at h
      · have h1 : firstD ts wi ds 0 = none := by
          cases e : firstD ts wi ds 0 with
          | none => rfl
          | some z => rw [e] at h; cases h
        have all : ∀ {ds : List PyData} {k : Nat}, firstD ts wi ds k = none → ∀ x ∈ ds, formD x = true := by
          intro ds
          induction ds with
          | nil => intro k _ x hx; cases hx
          | cons d r ih =>
            intro k h x hx
            unfold firstD at h
            by_cases e : faultD ts wi d = ""
            · rw [if_pos e] at h
              rcases List.mem_cons.mp hx with rfl | hx
              · cases ef : formD x with
                | true => rfl
                | false =>
                  unfold faultD at e
                  rw [if_pos ef] at e
                  exact absurd e (by decide +kernel)
              · exact ih h x hx
            · rw [if_neg e] at h
              cases h
        exact all h1
      · cases h
    | _ => cases h
section
variable {P : Program} {w : World} {K : PySem.W.Frag} {mg : Str → Option Value} {base : Heap} {a : Nat → Addr} {d : Nat → FuncData}
def spQInit (CS CQ CE : Addr) : Sp := fun vs H Q E => ∃ (C : Addr → Prop) (n : Nat) (p dx sp : Addr) (ts : List (Str × Int)) (ks : List KeyE) (ss : List SvE) (m ms : Nat) (xw xp : V) (wd pd : PyData), vs = [.ref p, .ref sp, xw, xp] ∧ H p = some (.ins CQ dx []) ∧ Occ C H ∧ n ≤ 50 ∧ SchAt CS sp H ts ks ss m ms ∧ DA C H n xw wd ∧ DA C H n xp pd ∧
  (∀ ds, dueD ts wd pd = none → pd = .list ds → ∀ l H', H' p = some (.ins CQ dx (fldsQ sp xw l)) → DA C H' n (.ref l) (.list ds) → (∀ b o, b ≠ p → H b = some o → H' b = some o) → Q .non H') ∧ (∀ s i, dueD ts wd pd = some (s, i) → ∀ H', Same H H' → Er2 CE "part" "at" (.str s) (.int i) H' E)
theorem ok_qinit (T : Txt K mg a d) : FnOk P w K mg base (L2.CX P w) 7 (a 6700) (d 6700) ["self", "schema", "width", "parts"] (spQInit (a 43) (a 57) (a 7)) := by
  have G53 : FnOk P w K mg base (L2.CX P w) 6 (a 53) (d 53) ["schema", "width", "parts"] (spChkQ (a 43) (a 7)) := ok_chkq T
  refine T.F6700.okX sc_Question___init__ (fun vs H Q E h => ?_) (fun cdv A outer s H vs Q E hr h => ?_)
  · obtain ⟨C, n, p, dx, sp, ts, ks, ss, m, ms, xw, xp, wd, pd, rfl, _⟩ := h
    rfl
  · obtain ⟨C, n, p, dx, sp, ts, ks, ss, m, ms, xw, xp, wd, pd, rfl, hp, hO, n50, hS, hw, hpd, q0, q1⟩ := h
    refine ⟨_, (pss_cons (ps_expr (pe_call G53 (hr.mono (by decide)) (by rfl) T.g53 T.F53.kp T.b53 .nil (passes_call (takes_of rfl rfl rfl rfl) (fun _ _ _ _ h => h)) (pa_cons (pv 1) (pa_cons (pv 2) (pa_cons (pv 3) pa_nil)))))
  (pss_cons (ps_fld (pv 0) (pv 1) rfl)
  (pss_cons (ps_fld (pv 0) (pv 2) rfl)
  (pss_one (ps_fld (pv 0) (pe_lc (own := [("head", 4), ("atoms", 5)]) rfl sc_Question___init__.nd (pi_list (pv 3)) (blkOk_by (N := ["self", "schema", "width", "parts", "head", "atoms"]) (sc := defScope s_Question___init__) (by decide +kernel)) (fun _ _ _ _ _ => pg_tupK (K := K) 2 rfl (by rfl) (pgs_cons (pg_name (i := 4) sc_Question___init__.nd rfl (.inl rfl)) (pgs_cons (pg_name (i := 5) sc_Question___init__.nd rfl (.inl rfl)) pgs_nil))) (fun _ _ _ _ _ => pts_nil) (fun _ _ _ _ _ => (pe_tup (pa_cons (pv 4) (pa_cons (pe_callTy (T := "list") (r := Evl.rListS K)  call_list_of (by rfl) T.z_list (by decide +kernel) (pa_cons (pv 5) pa_nil)) pa_nil))))) rfl))))), ?_⟩
    refine ⟨_, rfl, _, rfl, _, rfl, C, n, sp, ts, ks, ss, m, ms, xw, xp, wd, pd, rfl, n50, hS, hw, hpd, fun hn H1 s1 => ?_, fun s i e H1 s1 => q1 s i e H1 s1⟩
    obtain ⟨wi, ds, rfl, rfl, hfo⟩ := due_none hn
    have hform : ∀ x ∈ ds, ∃ hs as, x = .tuple [.tuple hs, .list as] := fun x hx => by
      obtain ⟨hs, as, e, _⟩ := form_data (hfo x hx)
      exact ⟨hs, as, e⟩
    have hp1 := s1 _ _ hp
    refine ⟨_, rfl, _, rfl, p, _, dx, _, rfl, hp1, T.cl_57, T.no_57_schema, by show 0 < 1000; decide, ?_⟩
    refine ⟨_, rfl, _, rfl, p, _, dx, _, rfl, upd_same, T.cl_57, T.no_57_width, by show 1 < 1000; decide, ?_⟩
    generalize hHB : upd (upd H1 p _) p _ = HB
    have hpB : HB p = some (.ins (a 57) dx (putF "width" xw (putF "schema" (.ref sp) []))) := by rw [← hHB]; exact upd_same
    have oB : ∀ b o, b ≠ p → H1 b = some o → HB b = some o := fun b o n e => by rw [← hHB, upd_ne n, upd_ne n]; exact e
    clear hHB
    have kB : ∀ b o, ¬ C b → (∃ xs, o = HO.tup xs ∨ o = HO.lst xs) → H b = some o → HB b = some o := fun b o _ hx e => oB b o (fun e' => by
      rw [e', hp] at e
      obtain ⟨zs, hz⟩ := hx
      rcases hz with rfl | rfl <;> cases e) (s1 _ _ e)
    obtain ⟨l, xs, k, ek, rfl, nCl, hlB, l5, prB⟩ := (hpd.keep2 kB).asLst
    have hlen := Paired.length prB
    have OB : Occ C HB := fun x hx => by
      by_cases e : x = p
      · rw [e]
        exact ⟨_, hpB⟩
      · obtain ⟨o, eo⟩ := hO x hx
        exact ⟨o, oB x o e (s1 _ _ eo)⟩
    refine ⟨_, rfl, l, rfl, ⟨_, .of hlB⟩, fun D hD => ?_⟩
    have prD := paired_imp (fun _ _ h => DA.fresh hD h) prB
    refine lc_list (K := K) (a := l) (xs := xs) (fun i H' => ∃ ys, H' D = some (.lst ys) ∧ Paired (DA (fun x => C x ∨ x = D) H' k) ys (ds.take i) ∧ Same HB H') ⟨[], upd_same, .nil, same_upd hD⟩ (fun i H' _ hp' => ?_) (fun i y H' hy hp' => ?_) (fun H4 hp' => ?_)
    · obtain ⟨_, _, _, s⟩ := hp'
      exact .of (s _ _ hlB)
    · obtain ⟨ys, y1, y2, s⟩ := hp'
      obtain ⟨e, he, hye⟩ := paired_at prD hy
      have li : i < xs.length := (List.getElem?_eq_some_iff.mp hy).1
      obtain ⟨hs, as, rfl⟩ := hform e (List.mem_of_getElem? he)
      obtain ⟨b, us, k', ek', rfl, _, hb, _, pb⟩ := (hye.same s).asTup
      match us, pb with
      | [u, z], .cons hu (.cons hz .nil) =>
      obtain ⟨c, zs, k2, ek2, rfl, _, hc, c5, pc⟩ := hz.asLst
      refine ⟨b, _, rfl, .of hb, rfl, _, _, rfl, _, _, rfl, rfl, rfl, ?_⟩
      refine ⟨_, rfl, _, rfl, c, zs, rfl, .inl (.of hc), fun L hL => ⟨by show 2 ≤ sizeLine; decide, fun t ht => ?_⟩⟩
      have OB' : Occ (fun x => C x ∨ x = D) H' := fun x hx => by
        rcases hx with hx | rfl
        · exact (OB.same s) x hx
        · exact ⟨_, y1⟩
      have sL := same_upd (o := .lst zs) hL
      have st := same_upd (o := .tup [u, .ref L]) ht
      have nL := OB'.new hL
      have nt := (OB'.same sL).new ht
      subst ek'
      subst ek2
      have dL : DA (fun x => C x ∨ x = D) (upd (upd H' L (.lst zs)) t (.tup [u, .ref L])) (k2 + 1) (.ref L) (.list as) := .lst nL (st _ _ upd_same) c5 (paired_imp (fun _ _ h => (DA.same h sL).same st) pc)
      have dt : DA (fun x => C x ∨ x = D) (upd (upd H' L (.lst zs)) t (.tup [u, .ref L])) (k2 + 1 + 1) (.ref t) (.tuple [.tuple hs, .list as]) := .tup nt upd_same (by show 2 ≤ 5000; decide) (.cons ((hu.same sL).same st) (.cons dL .nil))
      have y1' := st _ _ (sL _ _ y1)
      have y2' := paired_imp (fun _ _ h => (DA.same h sL).same st) y2
      have s' := (s.trans sL).trans st
      generalize upd (upd H' L (.lst zs)) t (.tup [u, .ref L]) = H5 at dL dt y1' y2' s' ⊢
      have ly := Paired.length y2'
      rw [List.length_take] at ly
      have kp : ∀ x o', ¬ (C x ∨ x = D) → H5 x = some o' → upd H5 D (.lst (ys ++ [.ref t])) x = some o' := fun x o' hn e => by
        rw [upd_ne (fun e' => hn (.inr e'))]
        exact e
      refine ⟨_, y1', Nat.lt_of_le_of_lt (by omega : _ ≤ 5000) (by decide), ys ++ [.ref t], upd_same, ?_, fun x o' e => ?_⟩
      · rw [take_snoc he]
        exact paired_app (paired_imp (fun _ _ h => h.keep kp) y2') (.cons (dt.keep kp) .nil)
      · rw [upd_ne (ne_of_none e hD)]
        exact s' _ _ e
    obtain ⟨ys, y1, y2, s4⟩ := hp'
    rw [hlen, List.take_length] at y2
    have y3 : Paired (DA C H4 k) ys ds := paired_imp (fun _ _ h => DA.weak (fun x hx => .inl hx) h) y2
    have nCD : ¬ C D := OB.new hD
    have ly := Paired.length y3
    have hp4 := s4 _ _ hpB
    have nDp : D ≠ p := (ne_of_none hpB hD).symm
    refine ⟨_, rfl, p, _, dx, _, rfl, hp4, T.cl_57, T.no_57__parts, by show 2 < 1000; decide, ?_⟩
    have k5 : ∀ b o, ¬ C b → (∃ xs, o = HO.tup xs ∨ o = HO.lst xs) → H4 b = some o → upd H4 p (.ins (a 57) dx (fldsQ sp xw D)) b = some o := fun b o _ hx e => by
      rw [upd_ne fun e' => by
        rw [e', hp4] at e
        obtain ⟨zs, hz⟩ := hx
        rcases hz with rfl | rfl <;> cases e]
      exact e
    refine q0 ds hn rfl D _ upd_same (ek ▸ (DA.lst nCD y1 (by omega) y3).keep2 k5) fun b o nb e => ?_
    rw [upd_ne nb]
    exact s4 _ _ (oB b o nb (s1 _ _ e))
/-- a question, as data -/
def QAt (CQ p sp : Addr) (C : Addr → Prop) (n : Nat) (H : Hp) (wi : Int) (ds : List PyData) : Prop := ∃ dx l, H p = some (.ins CQ dx (fldsQ sp (.int wi) l)) ∧ DA C H n (.ref l) (.list ds) ∧ ∀ x ∈ ds, ∃ hs as, x = .tuple [.tuple hs, .list as]
def spPartL (CQ : Addr) : Sp := fun vs H Q _ => ∃ (C : Addr → Prop) (n : Nat) (p sp : Addr) (wi : Int) (ds : List PyData), vs = [.ref p] ∧ Occ C H ∧ QAt CQ p sp C n H wi ds ∧ ∀ l H', DA C H' n (.ref l) (.list ds) → Same H H' → Q (.ref l) H'
theorem ok_partl (T : Txt K mg a d) : FnOk P w K mg base CX0 1 (a 6701) (d 6701) ["self"] (spPartL (a 57)) := by
  refine T.F6701.ok sc_Question_part_list (fun vs H Q E h => ?_) (fun cdv A outer s H vs Q E hr h => ?_)
  · obtain ⟨C, n, p, sp, wi, ds, rfl, _⟩ := h
    rfl
  · obtain ⟨C, n, p, sp, wi, ds, rfl, OB, ⟨dx, l0, hp, hl0, hform⟩, q⟩ := h
    refine ⟨_, (pss_one (ps_ret (pe_lc (own := [("head", 1), ("atoms", 2)]) rfl sc_Question_part_list.nd (pi_list (pe_fld (pv 0) rfl)) (blkOk_by (N := ["self", "head", "atoms"]) (sc := defScope s_Question_part_list) (by decide +kernel)) (fun _ _ _ _ _ => pg_tupK (K := K) 2 rfl (by rfl) (pgs_cons (pg_name (i := 1) sc_Question_part_list.nd rfl (.inl rfl)) (pgs_cons (pg_name (i := 2) sc_Question_part_list.nd rfl (.inl rfl)) pgs_nil))) (fun _ _ _ _ _ => pts_nil) (fun _ _ _ _ _ => (pe_tup (pa_cons (pv 1) (pa_cons (pe_callTy (T := "list") (r := Evl.rListS K)  call_list_of (by rfl) T.z_list (by decide +kernel) (pa_cons (pv 2) pa_nil)) pa_nil))))))), ?_⟩
    obtain ⟨l, xs, k, ek, e0, nCl, hlB, l5, prB⟩ := hl0.asLst
    cases e0
    have hlen := Paired.length prB
    refine ⟨_, rfl, p, _, dx, _, _, rfl, hp, T.cl_57, T.no_57__parts, flds_qp _ _ _, l0, rfl, ⟨_, .of hlB⟩, fun D hD => ?_⟩
    have prD := paired_imp (fun _ _ h => DA.fresh hD h) prB
    refine lc_list (K := K) (a := l0) (xs := xs) (fun i H' => ∃ ys, H' D = some (.lst ys) ∧ Paired (DA (fun x => C x ∨ x = D) H' k) ys (ds.take i) ∧ Same H H') ⟨[], upd_same, .nil, same_upd hD⟩ (fun i H' _ hp' => ?_) (fun i y H' hy hp' => ?_) (fun H4 hp' => ?_)
    · obtain ⟨_, _, _, s⟩ := hp'
      exact .of (s _ _ hlB)
    · obtain ⟨ys, y1, y2, s⟩ := hp'
      obtain ⟨e, he, hye⟩ := paired_at prD hy
      have li : i < xs.length := (List.getElem?_eq_some_iff.mp hy).1
      obtain ⟨hs, as, rfl⟩ := hform e (List.mem_of_getElem? he)
      obtain ⟨b, us, k', ek', rfl, _, hb, _, pb⟩ := (hye.same s).asTup
      match us, pb with
      | [u, z], .cons hu (.cons hz .nil) =>
      obtain ⟨c, zs, k2, ek2, rfl, _, hc, c5, pc⟩ := hz.asLst
      refine ⟨b, _, rfl, .of hb, rfl, _, _, rfl, _, _, rfl, rfl, rfl, ?_⟩
      refine ⟨_, rfl, _, rfl, c, zs, rfl, .inl (.of hc), fun L hL => ⟨by show 2 ≤ sizeLine; decide, fun t ht => ?_⟩⟩
      have OB' : Occ (fun x => C x ∨ x = D) H' := fun x hx => by
        rcases hx with hx | rfl
        · exact (OB.same s) x hx
        · exact ⟨_, y1⟩
      have sL := same_upd (o := .lst zs) hL
      have st := same_upd (o := .tup [u, .ref L]) ht
      have nL := OB'.new hL
      have nt := (OB'.same sL).new ht
      subst ek'
      subst ek2
      have dL : DA (fun x => C x ∨ x = D) (upd (upd H' L (.lst zs)) t (.tup [u, .ref L])) (k2 + 1) (.ref L) (.list as) := .lst nL (st _ _ upd_same) c5 (paired_imp (fun _ _ h => (DA.same h sL).same st) pc)
      have dt : DA (fun x => C x ∨ x = D) (upd (upd H' L (.lst zs)) t (.tup [u, .ref L])) (k2 + 1 + 1) (.ref t) (.tuple [.tuple hs, .list as]) := .tup nt upd_same (by show 2 ≤ 5000; decide) (.cons ((hu.same sL).same st) (.cons dL .nil))
      have y1' := st _ _ (sL _ _ y1)
      have y2' := paired_imp (fun _ _ h => (DA.same h sL).same st) y2
      have s' := (s.trans sL).trans st
      generalize upd (upd H' L (.lst zs)) t (.tup [u, .ref L]) = H5 at dL dt y1' y2' s' ⊢
      have ly := Paired.length y2'
      rw [List.length_take] at ly
      have kp : ∀ x o', ¬ (C x ∨ x = D) → H5 x = some o' → upd H5 D (.lst (ys ++ [.ref t])) x = some o' := fun x o' hn e => by
        rw [upd_ne (fun e' => hn (.inr e'))]
        exact e
      refine ⟨_, y1', Nat.lt_of_le_of_lt (by omega : _ ≤ 5000) (by decide), ys ++ [.ref t], upd_same, ?_, fun x o' e => ?_⟩
      · rw [take_snoc he]
        exact paired_app (paired_imp (fun _ _ h => h.keep kp) y2') (.cons (dt.keep kp) .nil)
      · rw [upd_ne (ne_of_none e hD)]
        exact s' _ _ e
    obtain ⟨ys, y1, y2, s4⟩ := hp'
    rw [hlen, List.take_length] at y2
    have y3 : Paired (DA C H4 k) ys ds := paired_imp (fun _ _ h => DA.weak (fun x hx => .inl hx) h) y2
    have nCD : ¬ C D := OB.new hD
    have ly := Paired.length y3
    exact q D H4 (ek ▸ DA.lst nCD y1 (by omega) y3) s4
end
/-! ### words of lines, as data -/
def nT (i : Int) : Str := Str.ofString (toString i)
theorem nT_nat (n : Nat) : TL.tl (nT (n : Int)) = TL.numL n := TL.tl_num n
theorem ofString_app (x y : String) : Str.ofString (x ++ y) = Str.ofString x ++ Str.ofString y := by
  refine TL.ext_tl ?_
  rw [TL.tl_append, Str.ofString_eq_toList, Str.ofString_eq_toList, Str.ofString_eq_toList]
  show ((x ++ y).toList.map Char.toNat) = _ ++ _
  rw [String.toList_append, List.map_append]
theorem nT_neg {n : Nat} (h : 0 < n) : nT (-(n : Int)) = "-" ++ nT (n : Int) := by
  obtain ⟨m, rfl⟩ : ∃ m, n = m + 1 := ⟨n - 1, by omega⟩
  have e : toString (-(((m + 1 : Nat)) : Int)) = "-" ++ toString (((m + 1 : Nat)) : Int) := rfl
  unfold nT
  rw [e, ofString_app]
/-- the text of a number read: digits, no 0 ahead -/
def digB (c : Nat) : Bool := decide (48 ≤ c ∧ c ≤ 57)
def numO (s : Str) : Option Int := if decide (1 ≤ s.length ∧ s.length ≤ 30) && s.cps.toList.all digB then (if s.cps.toList.head? = some 48 ∧ s ≠ "0" then none else some ((NumText.digitsVal s.cps.toList : Nat) : Int)) else none
theorem numL_head {n : Nat} (h : (TL.numL n).head? = some 48) : n = 0 := by
  induction n using Nat.strongRecOn with
  | ind n ih =>
    by_cases h10 : n < 10
    · rw [TL.numL_lt h10] at h
      simp at h
      omega
    · rw [TL.numL_step (by omega)] at h
      rw [List.head?_append] at h
      have h2 : (TL.numL (n / 10)).head? = some 48 := by
        cases e : TL.numL (n / 10) with
        | nil => exact absurd e (TL.numL_ne _)
        | cons c r => rw [e] at h; simpa using h
      have := ih (n / 10) (by omega) h2
      omega
theorem num_nT {n : Nat} (h : n < 10 ^ 30) : numO (nT (n : Int)) = some (n : Int) := by
  have e := nT_nat n
  have e : (nT (n : Int)).cps.toList = TL.numL n := e
  have l1 : (nT (n : Int)).length = (TL.numL n).length := by rw [TL.len_tl]; exact congrArg List.length e
  have l2 := TL.numL_len (n := n) (k := 30) (by decide) h
  have l3 : 1 ≤ (TL.numL n).length := List.length_pos_iff.mpr (TL.numL_ne n)
  unfold numO
  rw [e, decide_eq_true (show 1 ≤ (nT (n : Int)).length ∧ (nT (n : Int)).length ≤ 30 by omega), Bool.true_and]
  have hd : (TL.numL n).all digB = true := List.all_eq_true.mpr fun c hc => decide_eq_true (TL.numL_digits n c hc)
  rw [if_pos hd]
  have hz : ¬ ((TL.numL n).head? = some 48 ∧ nT (n : Int) ≠ "0") := by
    rintro ⟨h1, h2⟩
    have := numL_head h1
    subst this
    exact h2 (by decide +kernel)
  rw [if_neg hz, TL.numL_val]
/-- the text of a value -/
def valO (s : Str) : Option PyData := if s.cps.toList.head? = some 45 then (match numO ⟨(s.cps.toList.drop 1).toArray⟩ with
    | none => none
    | some n => if n = 0 then none else some (.int (-n)))
  else match numO s with
    | some n => some (.int n)
    | none => if wordB s = true then some (.str s) else none
def termO (s : Str) : Option PyData := if s.cps.toList.head? = some 63 then (match numO ⟨(s.cps.toList.drop 1).toArray⟩ with
    | none => none
    | some n => some (.tuple [.int n]))
  else valO s
def termW : PyData → Str
  | .int i => nT i
  | .str s => s
  | .tuple [.int i] => "?" ++ nT i
  | _ => ""
theorem nT_tl {n : Nat} : (nT (n : Int)).cps.toList = TL.numL n := nT_nat n
theorem nT_dig {n c : Nat} (h : c ∈ (nT (n : Int)).cps.toList) : 48 ≤ c ∧ c ≤ 57 := TL.numL_digits n c (by rw [← nT_tl]; exact h)
theorem str_mk (s : Str) : (⟨s.cps.toList.toArray⟩ : Str) = s := TL.ext_tl (by show s.cps.toList.toArray.toList = _; simp)
theorem nT_head {n k : Nat} (hk : k < 48 ∨ 57 < k) : (nT (n : Int)).cps.toList.head? ≠ some k := fun e => by
  have hm : k ∈ (nT (n : Int)).cps.toList := by
    cases h : (nT (n : Int)).cps.toList with
    | nil => rw [h] at e; cases e
    | cons c r => rw [h] at e; cases e; exact List.mem_cons_self
  have := nT_dig hm
  omega
theorem app1 {x y : Str} {k : Nat} (hx : x.cps.toList = [k]) : (x ++ y).cps.toList = k :: y.cps.toList := by
  rw [cps_app, hx]
  rfl
theorem word_num {s : Str} (h : wordB s = true) : numO s = none := by
  unfold wordB at h
  rw [Bool.and_eq_true] at h
  have h1 := of_decide_eq_true h.1
  unfold numO
  rw [if_neg]
  rw [Bool.and_eq_true]
  rintro ⟨_, h2⟩
  cases e : s.cps.toList with
  | nil => rw [TL.len_tl] at h1; have : (TL.tl s) = [] := e; rw [this] at h1; exact absurd h1.1 (by decide)
  | cons c r =>
    rw [e] at h h2
    have a1 := of_decide_eq_true (List.all_eq_true.mp h.2 c (by simp))
    have a2 : 48 ≤ c ∧ c ≤ 57 := of_decide_eq_true (List.all_eq_true.mp h2 c (by simp))
    omega
theorem word_head {s : Str} (h : wordB s = true) {k : Nat} (hk : k < 97) : s.cps.toList.head? ≠ some k := fun e => by
  unfold wordB at h
  rw [Bool.and_eq_true] at h
  cases es : s.cps.toList with
  | nil => rw [es] at e; cases e
  | cons c r =>
    rw [es] at e h
    cases e
    have := of_decide_eq_true (List.all_eq_true.mp h.2 k (by simp))
    omega
theorem val_back {d : PyData} (h : valD d = true) : valO (termW d) = some d ∧ (termW d).cps.toList.head? ≠ some 63 := by
  cases d with
  | int i =>
    have h := of_decide_eq_true h
    by_cases hi : 0 ≤ i
    · obtain ⟨n, rfl⟩ : ∃ n : Nat, i = n := ⟨i.toNat, by omega⟩
      have hn : n < 10 ^ 30 := by have := h.2; omega
      refine ⟨?_, nT_head (.inr (by decide))⟩
      show valO (nT (n : Int)) = _
      unfold valO
      rw [if_neg (nT_head (.inl (by decide))), num_nT hn]
    · obtain ⟨n, rfl, hp⟩ : ∃ n : Nat, i = -(n : Int) ∧ 0 < n := ⟨(-i).toNat, by omega, by omega⟩
      have hn : n < 10 ^ 30 := by have := h.1; omega
      have e : termW (.int (-(n : Int))) = "-" ++ nT (n : Int) := nT_neg hp
      have tl : (("-" : Str) ++ nT (n : Int)).cps.toList = 45 :: (nT (n : Int)).cps.toList := app1 (by decide +kernel)
      rw [e]
      refine ⟨?_, by rw [tl]; simp⟩
      unfold valO
      rw [if_pos (by rw [tl]; rfl), tl]
      show (match numO ⟨((nT (n : Int)).cps.toList).toArray⟩ with
        | none => none
        | some m => if m = 0 then none else some (PyData.int (-m))) = _
      rw [str_mk, num_nT hn]
      exact if_neg (by omega)
  | str s =>
    have h : wordB s = true := h
    refine ⟨?_, word_head h (by decide)⟩
    show valO s = _
    unfold valO
    rw [if_neg (word_head h (by decide)), word_num h]
    exact if_pos h
  | _ => cases h
theorem term_back {d : PyData} (h : termD d = true) : termO (termW d) = some d := by
  unfold termD at h
  rw [Bool.or_eq_true] at h
  rcases h with h | h
  · obtain ⟨h1, h2⟩ := val_back h
    unfold termO
    rw [if_neg h2, h1]
  · unfold varD at h
    split at h
    · rename_i i
      have h := of_decide_eq_true h
      obtain ⟨n, rfl⟩ : ∃ n : Nat, i = n := ⟨i.toNat, by omega⟩
      have hn : n < 10 ^ 30 := by have := h.2; omega
      have tl : (("?" : Str) ++ nT (n : Int)).cps.toList = 63 :: (nT (n : Int)).cps.toList := app1 (by decide +kernel)
      show termO (("?" : Str) ++ nT (n : Int)) = _
      unfold termO
      rw [if_pos (by rw [tl]; rfl), tl]
      show (match numO ⟨((nT (n : Int)).cps.toList).toArray⟩ with
        | none => none
        | some m => some (PyData.tuple [.int m])) = _
      rw [str_mk, num_nT hn]
    · cases h
theorem sgn_dig {c : Nat} : ((!decide (([c] : List Nat) < [48])) && (!decide (([57] : List Nat) < [c]))) = digB c := by
  have h1 : (([c] : List Nat) < [48]) ↔ c < 48 := by rw [List.cons_lt_cons_iff]; simp
  have h2 : (([57] : List Nat) < [c]) ↔ 57 < c := by rw [List.cons_lt_cons_iff]; simp
  unfold digB
  simp only [h1, h2]
  by_cases a : c < 48 <;> by_cases b : 57 < c <;> simp [a, b] <;> omega
def optI : Option Int → V
  | none => .non
  | some i => .int i
section
variable {P : Program} {w : World} {K : PySem.W.Frag} {mg : Str → Option Value} {base : Heap} {a : Nat → Addr} {d : Nat → FuncData}
def spNumT : Sp := fun vs H Q _ => ∃ s : Str, vs = [.str s] ∧ s.length ≤ 1000 ∧ ∀ H', Same H H' → Q (optI (numO s)) H'
theorem ok_number (T : Txt K mg a d) : FnOk P w K mg base CX0 1 (a 61) (d 61) ["text"] spNumT := by
  refine T.F61.ok sc__number (fun vs H Q E h => ?_) (fun cdv A outer s H vs Q E hr h => ?_)
  · obtain ⟨s, rfl, _⟩ := h
    rfl
  · obtain ⟨s, rfl, hl, q⟩ := h
    obtain ⟨t8, h_MOST_DIGITS⟩ := T.c_MOST_DIGITS
    refine ⟨_, (pss_cons (ps_if (PW.pt (pw_or (pt_not (pt_chain op_le op_le pe_int (pe_callB (id := "len")  call_len_str (by rfl) T.z_len (by decide +kernel) (pa_cons (pv 0) pa_nil)) (pe_glob (v := .int (30)) rfl h_MOST_DIGITS ⟨_, rfl⟩))) (pw_or1 (pt_not (pt_val (pe_callB (id := "all")  (cr_all rfl) (by rfl) T.z_all (by decide +kernel) (pa_cons (pe_lc (own := [("sign", 1)]) rfl sc__number.nd (pi_str (pv 0)) (blkOk_by (N := ["text", "sign"]) (sc := defScope s__number) (by decide +kernel)) (fun _ _ _ _ _ => pg_name (i := 1) sc__number.nd rfl (.inl rfl)) (fun _ _ _ _ _ => pts_nil) (fun _ _ _ _ _ => (pe_chain op_le_str op_le_str pe_str (pv 1) pe_str))) pa_nil)))))))
    (pss_one (ps_ret pe_non))
    pss_nil)
  (pss_one (ps_ret (pe_ifExp (PW.pt (pw_and (pt_cmpR op_eq (pe_ix ix_str (pv 0) pe_int (fun _ _ => rfl)) pe_str (nomark _)) (pw_and1 (pt_cmpR op_ne (pv 0) pe_str (nomark _))))) pe_non (pe_callTy (T := "int")  call_int_str (by rfl) T.z_int (by decide +kernel) (pa_cons (pv 0) pa_nil)))))), ?_⟩
    have bad : ¬ (1 ≤ s.length ∧ s.length ≤ 30) → ∀ H', Same H H' → Q .non H' := fun h H' s' => by
      have q1 := q H' s'
      unfold numO at q1
      rw [decide_eq_false h, Bool.false_and, if_neg (by decide)] at q1
      exact q1
    refine ⟨_, rfl, _, rfl, small1000' hl, _, _, rfl, rfl, _, rfl, ite_d (fun h1 => ?_) (fun h1 => ?_)⟩
    rotate_left
    · exact ⟨_, rfl, ifT (bad (by omega) H (Same.refl H))⟩
    refine ⟨_, _, rfl, rfl, _, rfl, ite_nd (fun h2 => ?_) (fun h2 => ?_)⟩
    · exact bad (by omega) H (Same.refl H)
    have hlen : 1 ≤ s.length ∧ s.length ≤ 30 := by omega
    refine ⟨_, rfl, _, rfl, fun D hD => ?_⟩
    refine lc_str (fun i H' => H' D = some (.lst (((s.cps.toList.take i).map digB).map V.bl)) ∧ Same H H') ⟨upd_same, same_upd hD⟩ (fun i c H' hx hp => ?_) (fun H' hp => ?_)
    · have hx' : s.cps.toList[i]? = some c := by rw [Array.getElem?_toList]; exact hx
      have li : i < s.cps.toList.length := (List.getElem?_eq_some_iff.mp hx').1
      have hsz : (((s.cps.toList.take i).map digB).map V.bl).length < sizeLine := by
        rw [List.length_map, List.length_map, List.length_take]
        have : s.cps.toList.length = s.length := Array.length_toList
        exact small1000 (by omega)
      have step : ∀ b, b = digB c → ∀ H3, H3 = H' → (upd H3 D (.lst (((s.cps.toList.take i).map digB).map V.bl ++ [.bl b]))) D = some (.lst (((s.cps.toList.take (i + 1)).map digB).map V.bl)) ∧ Same H (upd H3 D (.lst (((s.cps.toList.take i).map digB).map V.bl ++ [.bl b]))) := fun b eb H3 e3 => by
        subst e3
        refine ⟨?_, fun x o ex => ?_⟩
        · rw [map_take hx', List.map_append, ← eb]
          exact upd_same
        · rw [upd_ne (ne_of_none ex hD)]
          exact hp.2 x o ex
      have e0 : ("0" : Str).cps.toList = [48] := by decide +kernel
      have e9 : ("9" : Str).cps.toList = [57] := by decide +kernel
      have eo := sgn_dig (c := c)
      refine ⟨rfl, ?_⟩
      refine ⟨_, rfl, _, _, rfl, rfl, _, rfl, ?_⟩
      refine ite_nd (fun h3 => ?_) (fun h3 => ?_)
      · rw [e0] at h3
        have h3' : ¬ ([c] : List Nat) < [48] := h3
        rw [decide_eq_false h3'] at eo
        refine ⟨_, _, rfl, rfl, _, hp.1, hsz, step _ ?_ _ rfl⟩
        rw [e9]
        exact eo
      · rw [e0] at h3
        have h3' : ([c] : List Nat) < [48] := h3
        rw [decide_eq_true h3'] at eo
        exact ⟨_, hp.1, hsz, step _ eo _ rfl⟩
    obtain ⟨h3, h4⟩ := hp
    have et : s.cps.toList.take s.cps.size = s.cps.toList := List.take_of_length_le (Nat.le_of_eq Array.length_toList)
    rw [et] at h3
    refine ⟨D, _, rfl, .of h3, _, rfl, ?_⟩
    rw [show ((s.cps.toList.map digB).all id) = s.cps.toList.all digB by rw [List.all_map]; rfl]
    have q1 := q H' h4
    unfold numO at q1
    rw [decide_eq_true hlen, Bool.true_and] at q1
    cases ed : s.cps.toList.all digB with
    | false =>
      rw [ed, if_neg (by decide)] at q1
      exact ifT q1
    | true =>
    rw [ed, if_pos rfl] at q1
    refine ifF ?_
    obtain ⟨c, r, ec⟩ : ∃ c r, s.cps.toList = c :: r := by
      cases e : s.cps.toList with
      | nil => have h5 : s.length = s.cps.toList.length := TL.len_tl s; rw [e] at h5; exact absurd hlen.1 (by rw [h5]; decide)
      | cons c r => exact ⟨c, r, rfl⟩
    have hi : PySem.intText? s = some ((NumText.digitsVal s.cps.toList : Nat) : Int) := intText_digits (fun c hc => of_decide_eq_true (List.all_eq_true.mp ed c hc)) (by rw [ec]; simp) (by omega)
    have h0 : (V.str ⟨#[c]⟩ = V.str "0") ↔ c = 48 := by
      constructor
      · intro h
        have h := congrArg (fun s : Str => s.cps.toList) (V.str.inj h)
        have h : [c] = ("0" : Str).cps.toList := h
        rw [show ("0" : Str).cps.toList = [48] by decide +kernel] at h
        exact (List.cons.inj h).1
      · rintro rfl
        rfl
    have rest : ¬ (s.cps.toList.head? = some 48 ∧ s ≠ "0") → Q (.int ((NumText.digitsVal s.cps.toList : Nat) : Int)) H' := fun h => by
      rw [if_neg h] at q1
      exact q1
    refine ⟨_, rfl, s, 0, c, rfl, rfl, small1000' hl, by rw [ec]; exact atI_nat (j := 0) rfl, rfl, _, rfl, ite_d (fun h5 => ?_) (fun h5 => ?_)⟩
    · have hc := h0.mp h5
      subst hc
      refine ⟨_, rfl, rfl, _, rfl, ite_nd (fun h6 => ?_) (fun h6 => ?_)⟩
      · rw [if_pos ⟨by rw [ec]; rfl, fun e => h6 (by rw [e])⟩] at q1
        exact q1
      · exact ⟨_, rfl, s, _, rfl, hi, by omega, rest fun z => z.2 (V.str.inj h6)⟩
    · exact ⟨_, rfl, s, _, rfl, hi, by omega, rest fun z => h5 (h0.mpr (by have h7 := z.1; rw [ec] at h7; exact Option.some.inj h7))⟩
theorem sw1 {s t : Str} {k : Nat} (ht : t.cps.toList = [k]) : Txt.startswith s t = decide (s.cps.toList.head? = some k) := by
  have hne : TL.tl t ≠ [] := by show t.cps.toList ≠ []; rw [ht]; simp
  have h1 := TL.at_iff (x := s) (y := t) hne 0
  have h2 : Txt.startswith s t = true ↔ StrLaws.At s t s.length 0 := by
    unfold Txt.startswith StrLaws.At
    rw [Bool.and_eq_true, decide_eq_true_eq]
  rw [Bool.eq_iff_iff, h2, h1, decide_eq_true_eq]
  show TL.pre t.cps.toList (s.cps.toList.drop 0) = true ↔ _
  rw [ht, List.drop_zero]
  cases s.cps.toList with
  | nil =>
    show (([] : List Nat) == [k]) = true ↔ (none : Option Nat) = some k
    simp
  | cons c r =>
    show (([c] : List Nat) == [k]) = true ↔ some c = some k
    simp
theorem cut1 (s : Str) : cutS s (some 1) none = ⟨(s.cps.toList.drop 1).toArray⟩ := by
  refine TL.ext_tl ?_
  unfold cutS
  rw [HT.sIx_none, show (some (1 : Int)) = some ((1 : Nat) : Int) from rfl, HT.sIx_nat]
  show ((List.take _ (List.drop _ _)).toArray).toList = ((List.drop 1 s.cps.toList).toArray).toList
  have hl : s.length = s.cps.toList.length := TL.len_tl s
  rw [hl]
  cases e : s.cps.toList with
  | nil => simp
  | cons c r => simp
def optV : Option PyData → V → Prop
  | none, v => v = .non
  | some d, v => Sc v d
def spName : Sp := fun vs H Q _ => ∃ s : Str, vs = [.str s] ∧ s.length ≤ 1000 ∧ Low s ∧ ∀ H', Same H H' → Q (if wordB s = true then .str s else .non) H'
theorem ok_name (T : Txt K mg a d) : FnOk P w K mg base CX0 2 (a 60) (d 60) ["text"] spName := by
  have G13 : FnOk P w K mg base CX0 1 (a 13) (d 13) ["thing"] (spB wordV) := ok_is_word T
  refine T.F60.ok sc__name (fun vs H Q E h => ?_) (fun cdv A outer s H vs Q E hr h => ?_)
  · obtain ⟨s, rfl, _⟩ := h
    rfl
  · obtain ⟨s, rfl, hl, hc, q⟩ := h
    refine ⟨_, (pss_one (ps_ret (pe_ifExp (pt_val (pe_call G13 (hr.mono (by decide)) (by rfl) T.g13 T.F13.kp T.b13 .nil pass0 (pa_cons (pv 0) pa_nil))) (pv 0) pe_non))), ?_⟩
    refine ⟨_, rfl, _, rfl, .str s hl hc, fun H1 s1 => ⟨_, rfl, ?_⟩⟩
    have q1 := q H1 s1
    cases ew : wordB s with
    | true =>
      rw [ew, if_pos rfl] at q1
      show if wordB s = true then _ else _
      rw [ew]
      exact ifT ⟨_, rfl, q1⟩
    | false =>
      rw [ew, if_neg (by decide)] at q1
      show if wordB s = true then _ else _
      rw [ew]
      exact ifF q1
def spValT : Sp := fun vs H Q _ => ∃ s : Str, vs = [.str s] ∧ s.length ≤ 1000 ∧ Low s ∧ ∀ v H', optV (valO s) v → Same H H' → Q v H'
theorem ok_value3 (T : Txt K mg a d) : FnOk P w K mg base CX0 3 (a 62) (d 62) ["text"] spValT := by
  have G61 : FnOk P w K mg base CX0 1 (a 61) (d 61) ["text"] spNumT := ok_number T
  have G60 : FnOk P w K mg base CX0 2 (a 60) (d 60) ["text"] spName := ok_name T
  refine T.F62.ok sc__value (fun vs H Q E h => ?_) (fun cdv A outer s H vs Q E hr h => ?_)
  · obtain ⟨s, rfl, _⟩ := h
    rfl
  · obtain ⟨s, rfl, hl, hc, q⟩ := h
    refine ⟨_, (pss_cons (ps_if (pt_not (pt_val (pe_m1 PySem.F.slot_str_startswith PySem.F.type_str_startswith mt_startswith (pv 0) pe_str)))
    (pss_cons (ps_set (i := 1) sc__value.nd rfl (.inl rfl) (pe_call G61 (hr.mono (by decide)) (by rfl) T.g61 T.F61.kp T.b61 .nil pass0 (pa_cons (pv 0) pa_nil)))
      (pss_one (ps_ret (pe_ifExp (pt_cmpR op_isN (pv 1) pe_non (nomark _)) (pe_call G60 (hr.mono (by decide)) (by rfl) T.g60 T.F60.kp T.b60 .nil pass0 (pa_cons (pv 0) pa_nil)) (pv 1)))))
    pss_nil)
  (pss_cons (ps_set (i := 1) sc__value.nd rfl (.inl rfl) (pe_call G61 (hr.mono (by decide)) (by rfl) T.g61 T.F61.kp T.b61 .nil pass0 (pa_cons (pe_slice sl_str (pv 0) (po_some pe_int) po_none) pa_nil)))
  (pss_one (ps_ret (pe_ifExp (PW.pt (pw_or (pt_cmpR op_isN (pv 1) pe_non (nomark _)) (pw_or1 (pt_cmpR op_eq (pv 1) pe_int (nomark _))))) pe_non (pe_un un_neg (pv 1))))))), ?_⟩
    refine ⟨_, rfl, ⟨_, rfl⟩, s, "-", rfl, rfl, _, rfl, ?_⟩
    rw [sw1 (show ("-" : Str).cps.toList = [45] by decide +kernel)]
    by_cases h : s.cps.toList.head? = some 45
    · rw [decide_eq_true h]
      refine ifF ?_
      refine ⟨_, rfl, _, rfl, ?_⟩
      unfold tNoPart
      have hl' : (cutS s (some 1) none).length ≤ 1000 := by
        rw [cut1]
        show ((s.cps.toList.drop 1).toArray).size ≤ 1000
        rw [List.size_toArray, List.length_drop]
        have := TL.len_tl s
        have h2 : (TL.tl s).length = s.cps.toList.length := rfl
        omega
      refine ⟨s, rfl, small1000' hl, _, rfl, hl', fun H1 s1 => ?_⟩
      have ev : valO s = (match numO (cutS s (some 1) none) with
        | none => none
        | some n => if n = 0 then none else some (.int (-n))) := by
        unfold valO
        rw [if_pos h, cut1]
        all_goals (cases numO ⟨(s.cps.toList.drop 1).toArray⟩ <;> rfl)
      rw [ev] at q
      cases en : numO (cutS s (some 1) none) with
      | none =>
        rw [en] at q
        exact ⟨_, rfl, rfl, _, rfl, ite_d (fun _ => q _ H1 rfl s1) (fun e => absurd rfl e)⟩
      | some n =>
        rw [en] at q
        refine ⟨_, rfl, rfl, _, rfl, ite_d (fun e => nomatch e) (fun _ => ?_)⟩
        refine ⟨_, rfl, rfl, _, rfl, ite_eqI (fun e => ?_) (fun e => ?_)⟩
        · exact q _ H1 (by show optV (if n = 0 then none else some (.int (-n))) _; rw [if_pos e]; rfl) s1
        · exact ⟨_, rfl, _, rfl, q _ H1 (by show optV (if n = 0 then none else some (.int (-n))) _; rw [if_neg e]; exact .int _) s1⟩
    · rw [decide_eq_false h]
      refine ifT ?_
      refine ⟨_, rfl, s, rfl, hl, fun H1 s1 => ?_⟩
      have ev : valO s = (match numO s with
        | some n => some (.int n)
        | none => if wordB s = true then some (.str s) else none) := by
        unfold valO
        rw [if_neg h]
        all_goals (cases numO s <;> rfl)
      rw [ev] at q
      cases en : numO s with
      | some n =>
        rw [en] at q
        exact ⟨_, rfl, rfl, _, rfl, ite_d (fun e => nomatch e) (fun _ => ⟨_, rfl, q _ H1 (.int n) s1⟩)⟩
      | none =>
        rw [en] at q
        refine ⟨_, rfl, rfl, _, rfl, ite_d (fun _ => ?_) (fun e => absurd rfl e)⟩
        refine ⟨_, rfl, s, rfl, hl, hc, fun H2 s2 => ?_⟩
        have q2 := fun v => q v H2
        by_cases ew : wordB s = true
        · rw [if_pos ew]
          exact q _ H2 (by show optV (if wordB s = true then some (.str s) else none) _; rw [if_pos ew]; exact .str s hl hc) (s1.trans s2)
        · rw [if_neg ew]
          exact q _ H2 (by show optV (if wordB s = true then some (.str s) else none) _; rw [if_neg ew]; rfl) (s1.trans s2)
/-- a reader: what a word says, as data; it goes to a place that is free -/
def spRdr (g : Str → Option PyData) : Sp := fun vs H Q _ => ∃ s : Str, vs = [.str s] ∧ s.length ≤ 1000 ∧ Low s ∧ (g s = none → ∀ H', Same H H' → Q .non H') ∧ ∀ d, g s = some d → ∀ v H', (∀ (C : Addr → Prop), Occ C H → DA C H' 1 v d) → v ≠ .non → Same H H' → Q v H'
theorem ok_term3 (T : Txt K mg a d) : FnOk P w K mg base CX0 4 (a 63) (d 63) ["text"] (spRdr termO) := by
  have G61 : FnOk P w K mg base CX0 1 (a 61) (d 61) ["text"] spNumT := ok_number T
  have G62 : FnOk P w K mg base CX0 3 (a 62) (d 62) ["text"] spValT := ok_value3 T
  refine T.F63.ok sc__term (fun vs H Q E h => ?_) (fun cdv A outer s H vs Q E hr h => ?_)
  · obtain ⟨s, rfl, _⟩ := h
    rfl
  · obtain ⟨s, rfl, hl, hc, q0, q⟩ := h
    refine ⟨_, (pss_cons (ps_if (pt_not (pt_val (pe_m1 PySem.F.slot_str_startswith PySem.F.type_str_startswith mt_startswith (pv 0) pe_str)))
    (pss_one (ps_ret (pe_call G62 (hr.mono (by decide)) (by rfl) T.g62 T.F62.kp T.b62 .nil pass0 (pa_cons (pv 0) pa_nil))))
    pss_nil)
  (pss_cons (ps_set (i := 1) sc__term.nd rfl (.inl rfl) (pe_call G61 (hr.mono (by decide)) (by rfl) T.g61 T.F61.kp T.b61 .nil pass0 (pa_cons (pe_slice sl_str (pv 0) (po_some pe_int) po_none) pa_nil)))
  (pss_one (ps_ret (pe_ifExp (pt_cmpR op_isN (pv 1) pe_non (nomark _)) pe_non (pe_tup (pa_cons (pv 1) pa_nil))))))), ?_⟩
    refine ⟨_, rfl, ⟨_, rfl⟩, s, "?", rfl, rfl, _, rfl, ?_⟩
    rw [sw1 (show ("?" : Str).cps.toList = [63] by decide +kernel)]
    by_cases h : s.cps.toList.head? = some 63
    · rw [decide_eq_true h]
      refine ifF ?_
      refine ⟨_, rfl, _, rfl, ?_⟩
      unfold tNoPart
      have hl' : (cutS s (some 1) none).length ≤ 1000 := by
        rw [cut1]
        show ((s.cps.toList.drop 1).toArray).size ≤ 1000
        rw [List.size_toArray, List.length_drop]
        have := TL.len_tl s
        have h2 : (TL.tl s).length = s.cps.toList.length := rfl
        omega
      refine ⟨s, rfl, small1000' hl, _, rfl, hl', fun H1 s1 => ?_⟩
      have ev : termO s = (match numO (cutS s (some 1) none) with
        | none => none
        | some n => some (.tuple [.int n])) := by
        unfold termO
        rw [if_pos h, cut1]
        all_goals (cases numO ⟨(s.cps.toList.drop 1).toArray⟩ <;> rfl)
      cases en : numO (cutS s (some 1) none) with
      | none =>
        rw [en] at ev
        exact ⟨_, rfl, rfl, _, rfl, ite_d (fun _ => q0 ev H1 s1) (fun e => absurd rfl e)⟩
      | some n =>
        rw [en] at ev
        refine ⟨_, rfl, rfl, _, rfl, ite_d (fun e => nomatch e) (fun _ => ?_)⟩
        refine ⟨_, rfl, by show 1 ≤ sizeLine; decide, fun t ht => ?_⟩
        have st := same_upd (o := .tup [.int n]) ht
        exact q _ ev _ _ (fun C hO => .tup ((hO.same s1).new ht) upd_same (by show 1 ≤ 5000; decide) (.cons (.int n) .nil)) (fun e => nomatch e) (s1.trans st)
    · rw [decide_eq_false h]
      refine ifT ?_
      have ev : termO s = valO s := by
        unfold termO
        rw [if_neg h]
      refine ⟨_, rfl, s, rfl, hl, hc, fun v H1 hv s1 => ?_⟩
      cases en : valO s with
      | none =>
        rw [en] at hv
        have hv : v = .non := hv
        subst hv
        exact q0 (ev.trans en) H1 s1
      | some dd =>
        rw [en] at hv
        have hv : Sc v dd := hv
        refine q _ (ev.trans en) _ H1 (fun C _ => hv.da) (fun e => ?_) s1
        subst e
        cases hv
        unfold valO at en
        split at en
        · split at en
          · cases en
          · split at en <;> cases en
        · split at en
          · cases en
          · split at en <;> cases en
end
/-! ### lines, as data -/
def joinS (ws : List Str) : Str := Str.join " " ws
def nameS : PyData → Str
  | .str s => s
  | _ => ""
def atomL (x : PyData) : Str := joinS ("atom" :: nameS (atName x) :: (atTerms x).map termW)
def partL (d : PyData) : List Str := joinS ("part" :: (headOf d).map termW) :: (atomsOf d).map atomL
def linesD (w : Int) (ds : List PyData) : List Str := joinS ["question", nT w] :: ds.flatMap partL
def AtOk (x : PyData) : Prop := ∃ n ts, x = .tuple [.str n, .tuple ts] ∧ Wd n ∧ ts.length ≤ 4 ∧ ∀ t ∈ ts, termD t = true
def PtOk (d : PyData) : Prop := ∃ hs as, d = .tuple [.tuple hs, .list as] ∧ hs.length ≤ 12 ∧ as.length ≤ 20 ∧ (∀ t ∈ hs, termD t = true) ∧ ∀ x ∈ as, AtOk x
theorem big30 {i : Int} (h : -(10 ^ 30) < i ∧ i < 10 ^ 30) : i.natAbs.log2 < 1920 := by
  have h2 : i.natAbs < 2 ^ 100 := by omega
  exact Nat.lt_of_lt_of_le (PySem.Flt.log2_lt_of (by decide) h2) (by decide)
theorem nT_len {i : Int} (h : -(10 ^ 30) < i ∧ i < 10 ^ 30) : (nT i).length ≤ 31 := by
  by_cases hi : 0 ≤ i
  · obtain ⟨n, rfl⟩ : ∃ n : Nat, i = n := ⟨i.toNat, by omega⟩
    have l1 := TL.len_tl (nT (n : Int))
    rw [nT_nat] at l1
    have := TL.numL_len (n := n) (k := 30) (by decide) (by have := h.2; omega)
    omega
  · obtain ⟨n, rfl, hp⟩ : ∃ n : Nat, i = -(n : Int) ∧ 0 < n := ⟨(-i).toNat, by omega, by omega⟩
    rw [nT_neg hp, len_app]
    have l1 := TL.len_tl (nT (n : Int))
    rw [nT_nat] at l1
    have := TL.numL_len (n := n) (k := 30) (by decide) (by have := h.1; omega)
    have l2 : ("-" : Str).length = 1 := rfl
    omega
/-- the signs of a word of a line -/
def SgOk (s : Str) : Prop := s.length ≤ 40 ∧ ∀ c ∈ s.cps.toList, c < 128 ∧ c ≠ 32
theorem nT_sg {i : Int} (h : -(10 ^ 30) < i ∧ i < 10 ^ 30) : SgOk (nT i) := by
  refine ⟨Nat.le_trans (nT_len h) (by decide), fun c hc => ?_⟩
  by_cases hi : 0 ≤ i
  · obtain ⟨n, rfl⟩ : ∃ n : Nat, i = n := ⟨i.toNat, by omega⟩
    have := nT_dig hc
    omega
  · obtain ⟨n, rfl, hp⟩ : ∃ n : Nat, i = -(n : Int) ∧ 0 < n := ⟨(-i).toNat, by omega, by omega⟩
    rw [nT_neg hp, app1 (show ("-" : Str).cps.toList = [45] by decide +kernel)] at hc
    rcases List.mem_cons.mp hc with rfl | hc
    · decide
    · have := nT_dig hc
      omega
theorem termW_sg {d : PyData} (h : termD d = true) : SgOk (termW d) := by
  unfold termD at h
  rw [Bool.or_eq_true] at h
  rcases h with h | h
  · cases d with
    | int i =>
      have h := of_decide_eq_true h
      exact nT_sg (by omega)
    | str s =>
      have h : wordB s = true := h
      unfold wordB at h
      rw [Bool.and_eq_true] at h
      have h1 := of_decide_eq_true h.1
      refine ⟨Nat.le_trans h1.2 (by decide), fun c hc => ?_⟩
      have := of_decide_eq_true (List.all_eq_true.mp h.2 c hc)
      omega
    | _ => cases h
  · unfold varD at h
    split at h
    · rename_i i
      have h := of_decide_eq_true h
      have h0 := nT_sg (i := i) (by omega)
      have hl := nT_len (i := i) (by omega)
      have l2 : ("?" : Str).length = 1 := rfl
      refine ⟨?_, fun c hc => ?_⟩
      · show (("?" : Str) ++ nT i).length ≤ 40
        rw [len_app]
        omega
      · have hc : c ∈ (("?" : Str) ++ nT i).cps.toList := hc
        rw [app1 (show ("?" : Str).cps.toList = [63] by decide +kernel)] at hc
        rcases List.mem_cons.mp hc with rfl | hc
        · decide
        · exact h0.2 c hc
    · cases h
theorem wd_sg {s : Str} (h : Wd s) : SgOk s := ⟨Nat.le_trans h.2.1 (by decide), fun c hc => by have := h.2.2 c hc; omega⟩
theorem paired_right' {α β : Type} {F : α → β → Prop} : ∀ {xs : List α} {ys : List β} {y : β}, Paired F xs ys → y ∈ ys → ∃ x ∈ xs, F x y
  | _, _, _, .cons r t, h => by
    rcases List.mem_cons.mp h with rfl | h
    · exact ⟨_, List.mem_cons_self, r⟩
    · obtain ⟨x, hx, f⟩ := paired_right' t h
      exact ⟨x, List.mem_cons_of_mem _ hx, f⟩
section
variable {P : Program} {w : World} {K : PySem.W.Frag} {mg : Str → Option Value} {base : Heap} {a : Nat → Addr} {d : Nat → FuncData}
def spTW : Sp := fun vs H Q _ => ∃ (C : Addr → Prop) (n : Nat) (v : V) (d : PyData), vs = [v] ∧ DA C H n v d ∧ termD d = true ∧ Q (.str (termW d)) H
theorem var_int {i : Int} (h : termD (.tuple [.int i]) = true) : -(10 ^ 30) < i ∧ i < 10 ^ 30 := by
  have h : varD (.tuple [.int i]) = true := h
  have h := of_decide_eq_true h
  omega
theorem val_int {i : Int} (h : termD (.int i) = true) : -(10 ^ 30) < i ∧ i < 10 ^ 30 := by
  unfold termD at h
  rw [Bool.or_eq_true] at h
  rcases h with h | h
  · have h := of_decide_eq_true h
    omega
  · cases h
theorem ok_tw (T : Txt K mg a d) : FnOk P w K mg base CX0 1 (a 70) (d 70) ["term"] spTW := by
  refine T.F70.ok sc__term_word (fun vs H Q E h => ?_) (fun cdv A outer s H vs Q E hr h => ?_)
  · obtain ⟨C, n, v, d, rfl, _⟩ := h
    rfl
  · obtain ⟨C, n, v, d, rfl, hv, ht, q⟩ := h
    obtain ⟨nm, hty, k1, _⟩ := hv.ty (K := K)
    refine ⟨_, (pss_one (ps_ret (pe_ifExp (pt_val (pe_callB (id := "isinstance")  call_isi (by rfl) T.z_isinstance (by decide +kernel) (pa_cons (pv 0) (pa_cons (pe_bltn (v := .ty "tuple") (by rfl) T.z_tuple (by decide +kernel) rfl) pa_nil)))) (pe_op op_add_str pe_str (pe_callTy (T := "str")  (call_orC SkE.call_str_str call_str_int) (by rfl) T.z_str (by decide +kernel) (pa_cons (pe_ix ix_tup (pv 0) pe_int (fun _ _ => rfl)) pa_nil))) (pe_callTy (T := "str")  (call_orC SkE.call_str_str call_str_int) (by rfl) T.z_str (by decide +kernel) (pa_cons (pv 0) pa_nil))))), ?_⟩
    refine ⟨_, rfl, _, _, _, _, _, rfl, .ty _, hty, kit_ty k1, _, rfl, ?_⟩
    cases d with
    | tuple ds =>
      obtain ⟨i, rfl⟩ := term_tup ht
      obtain ⟨p, xs, k, rfl, rfl, _, hp, _, pr⟩ := hv.asTup
      match xs, pr with
      | [x], .cons hx .nil =>
      have := hx.asInt
      subst this
      have hb := var_int ht
      refine ifT ⟨_, rfl, _, _, _, _, rfl, rfl, .of hp, atI_nat (j := 0) rfl, .inr ⟨_, rfl, big30 hb, _, _, rfl, rfl, ?_, q⟩⟩
      have := nT_len hb
      show 1 + (nT i).length ≤ sizeLine
      exact Nat.le_of_lt (small1000 (by omega))
    | int i =>
      have := hv.asInt
      subst this
      exact ifF ⟨_, rfl, .inr ⟨_, rfl, big30 (val_int ht), q⟩⟩
    | str s =>
      obtain ⟨rfl, _⟩ := hv.asStr
      exact ifF ⟨_, rfl, .inl ⟨_, rfl, q⟩⟩
    | none => cases ht
    | bool b => cases ht
    | list b => cases ht
    | dict b => cases ht
def WV (v : V) (s : Str) : Prop := (v = .str s ∨ ∃ i, v = .int i ∧ s = nT i ∧ i.natAbs.log2 < 1920) ∧ s.length ≤ 1000
theorem join_len {ws : List Str} (h : ∀ s ∈ ws, s.length ≤ 1000) : (ws.map (·.length)).sum ≤ 1000 * ws.length := by
  induction ws with
  | nil => exact Nat.le_refl _
  | cons s ws ih =>
    rw [List.map_cons, List.sum_cons, List.length_cons]
    have h1 := h s (by simp)
    have h2 := ih fun x hx => h x (by simp [hx])
    omega
def spLine (K : PySem.W.Frag) : Sp := fun vs H Q _ => ∃ (p : Addr) (xs : List V) (ws : List Str), vs = [.ref p] ∧ SqL K H p xs ∧ Paired WV xs ws ∧ xs.length ≤ 100 ∧ ∀ H', Same H H' → Q (.str (joinS ws)) H'
theorem ok_line (T : Txt K mg a d) : FnOk P w K mg base CX0 1 (a 69) (d 69) ["words"] (spLine K) := by
  refine T.F69.ok sc__line (fun vs H Q E h => ?_) (fun cdv A outer s H vs Q E hr h => ?_)
  · obtain ⟨p, xs, ws, rfl, _⟩ := h
    rfl
  · obtain ⟨p, xs, ws, rfl, hS, pr, hl, q⟩ := h
    refine ⟨_, (pss_one (ps_ret (pe_join pe_str (pe_lc (own := [("word", 1)]) rfl sc__line.nd (pi_list (pv 0)) (blkOk_by (N := ["words", "word"]) (sc := defScope s__line) (by decide +kernel)) (fun _ _ _ _ _ => pg_name (i := 1) sc__line.nd rfl (.inl rfl)) (fun _ _ _ _ _ => pts_nil) (fun _ _ _ _ _ => (pe_callTy (T := "str")  (call_orC SkE.call_str_str call_str_int) (by rfl) T.z_str (by decide +kernel) (pa_cons (pv 1) pa_nil))))))), ?_⟩
    have hlen := Paired.length pr
    refine ⟨⟨_, rfl⟩, _, rfl, p, rfl, ⟨_, hS⟩, fun D hD => ?_⟩
    refine lc_list (K := K) (a := p) (xs := xs) (fun i H' => H' D = some (.lst ((ws.take i).map V.str)) ∧ Same H H') ⟨upd_same, same_upd hD⟩ (fun i H' _ hp => hp.2.seq hS) (fun i x H' hx hp => ?_) (fun H' hp => ?_)
    · obtain ⟨e, he, hxe⟩ := paired_at pr hx
      have li : i < xs.length := (List.getElem?_eq_some_iff.mp hx).1
      have fin : H' D = some (.lst ((ws.take i).map V.str)) ∧ ((ws.take i).map V.str).length < sizeLine ∧ upd H' D (.lst ((ws.take i).map V.str ++ [.str e])) D = some (.lst ((ws.take (i + 1)).map V.str)) ∧ Same H (upd H' D (.lst ((ws.take i).map V.str ++ [.str e]))) := by
        refine ⟨hp.1, ?_, ?_, fun b o eb => ?_⟩
        · rw [List.length_map, List.length_take]
          exact small1000 (by omega)
        · rw [map_take he]
          exact upd_same
        · rw [upd_ne (ne_of_none eb hD)]
          exact hp.2 b o eb
      obtain ⟨hxe, _⟩ := hxe
      rcases hxe with rfl | ⟨i', rfl, rfl, hb⟩
      · exact ⟨rfl, _, rfl, .inl ⟨_, rfl, _, fin⟩⟩
      · exact ⟨rfl, _, rfl, .inr ⟨_, rfl, hb, _, fin⟩⟩
    · obtain ⟨h1, h2⟩ := hp
      rw [hlen, List.take_length] at h1
      have wl : ∀ s ∈ ws, s.length ≤ 1000 := fun s hs => by
        obtain ⟨x, _, hx⟩ := paired_right' pr hs
        exact hx.2
      refine ⟨_, D, ws, rfl, rfl, .inl (.of h1), ?_, ?_⟩
      · have := join_len wl
        show _ + ws.length * 1 ≤ 16777216
        omega
      · have q1 := q H' h2
        unfold joinS at q1
        rw [TL.join_eq]
        exact q1
end
theorem lines_len {w : Int} : ∀ {ds : List PyData}, (∀ x ∈ ds, PtOk x) → (linesD w ds).length ≤ 1 + 21 * ds.length := by
  intro ds h
  unfold linesD
  rw [List.length_cons]
  have : (ds.flatMap partL).length ≤ 21 * ds.length := by
    induction ds with
    | nil => exact Nat.le_refl _
    | cons d ds ih =>
      rw [List.flatMap_cons, List.length_append, List.length_cons]
      obtain ⟨hs, as, rfl, _, a20, _⟩ := h d (by simp)
      have h1 : (partL (.tuple [.tuple hs, .list as])).length = as.length + 1 := by
        show (joinS _ :: as.map atomL).length = _
        rw [List.length_cons, List.length_map]
      have := ih fun x hx => h x (by simp [hx])
      omega
  omega
section
variable {P : Program} {w : World} {K : PySem.W.Frag} {mg : Str → Option Value} {base : Heap} {a : Nat → Addr} {d : Nat → FuncData}
theorem wv_str {s : Str} (h : SgOk s) : WV (.str s) s := ⟨.inl rfl, by have := h.1; omega⟩
theorem lit_sg : ∀ s ∈ (["question", "part", "atom", "?", "-"] : List Str), SgOk s := by
  have h : ((["question", "part", "atom", "?", "-"] : List Str).all fun s => decide (s.length ≤ 40) && s.cps.toList.all fun c => decide (c < 128) && decide (c ≠ 32)) = true := by decide +kernel
  intro s hs
  have := List.all_eq_true.mp h s hs
  rw [Bool.and_eq_true] at this
  refine ⟨of_decide_eq_true this.1, fun c hc => ?_⟩
  have := List.all_eq_true.mp this.2 c hc
  rw [Bool.and_eq_true] at this
  exact ⟨of_decide_eq_true this.1, of_decide_eq_true this.2⟩
theorem wvs_terms {ds : List PyData} (h : ∀ t ∈ ds, termD t = true) : Paired WV ((ds.map termW).map V.str) (ds.map termW) := by
  induction ds with
  | nil => exact .nil
  | cons d ds ih => exact .cons (wv_str (termW_sg (h d (by simp)))) (ih fun t ht => h t (by simp [ht]))
def spQLines (CQ : Addr) : Sp := fun vs H Q _ => ∃ (C : Addr → Prop) (n : Nat) (p sp : Addr) (wi : Int) (ds : List PyData), vs = [.ref p] ∧ Occ C H ∧ QAt CQ p sp C n H wi ds ∧ (-(10 ^ 30) < wi ∧ wi < 10 ^ 30) ∧ (∀ x ∈ ds, PtOk x) ∧ ds.length ≤ 50 ∧ ∀ l H', H' l = some (.lst ((linesD wi ds).map V.str)) → Same H H' → Q (.ref l) H'
theorem ok_qlines (T : Txt K mg a d) : FnOk P w K mg base CX0 2 (a 71) (d 71) ["question"] (spQLines (a 57)) := by
  have G69 : FnOk P w K mg base CX0 1 (a 69) (d 69) ["words"] (spLine K) := ok_line T
  have G70 : FnOk P w K mg base CX0 1 (a 70) (d 70) ["term"] spTW := ok_tw T
  have G6701 : FnOk P w K mg base CX0 1 (a 6701) (d 6701) ["self"] (spPartL (a 57)) := ok_partl T
  refine T.F71.ok sc_question_lines (fun vs H Q E h => ?_) (fun cdv A outer s H vs Q E hr h => ?_)
  · obtain ⟨C, n, p, sp, wi, ds, rfl, _⟩ := h
    rfl
  · obtain ⟨C, n, p, sp, wi, ds, rfl, hO, hQ, hwi, hds, d50, q⟩ := h
    refine ⟨_, (pss_cons (ps_set (i := 1) sc_question_lines.nd rfl (.inl rfl) (pe_lst (pa_cons (pe_call G69 (hr.mono (by decide)) (by rfl) T.g69 T.F69.kp T.b69 .nil pass0 (pa_cons (pe_lst (pa_cons pe_str (pa_cons (pe_fld (pv 0) rfl) pa_nil))) pa_nil)) pa_nil)))
  (pss_cons (ps_for PassesOwn.never rfl (pi_list (pe_meth0 (pv 0) T.cl_57 T.m_6701 G6701 (hr.mono (by decide)) T.b6701 .nil pass0)) (pg_tup rfl (pgs_cons (pg_name (i := 2) sc_question_lines.nd rfl (.inl rfl)) (pgs_cons (pg_name (i := 3) sc_question_lines.nd rfl (.inl rfl)) pgs_nil)))
    (pss_cons (ps_expr (pe_bm PySem.F.plainAttrs_list PySem.F.slot_list_append PySem.F.type_list_append mt_append (pv 1) (pa_cons (pe_call G69 (hr.mono (by decide)) (by rfl) T.g69 T.F69.kp T.b69 .nil pass0 (pa_cons (pe_lst (pa_cons pe_str (StX.pa_star (pe_lc (own := [("term", 6)]) rfl sc_question_lines.nd (pi_tup (pv 2)) (blkOk_by (N := ["question", "lines", "head", "atoms", "table", "terms", "term"]) (sc := defScope s_question_lines) (by decide +kernel)) (fun _ _ _ _ _ => pg_name (i := 6) sc_question_lines.nd rfl (.inl rfl)) (fun _ _ _ _ _ => pts_nil) (fun _ _ _ _ _ => (pe_call G70 (hr.mono (by decide)) (by rfl) T.g70 T.F70.kp T.b70 .nil pass0 (pa_cons (pv 6) pa_nil)))) pa_nil))) pa_nil)) pa_nil)))
      (pss_one (ps_for PassesOwn.never rfl (pi_list (pv 3)) (pg_tup rfl (pgs_cons (pg_name (i := 4) sc_question_lines.nd rfl (.inl rfl)) (pgs_cons (pg_name (i := 5) sc_question_lines.nd rfl (.inl rfl)) pgs_nil)))
        (pss_one (ps_expr (pe_bm PySem.F.plainAttrs_list PySem.F.slot_list_append PySem.F.type_list_append mt_append (pv 1) (pa_cons (pe_call G69 (hr.mono (by decide)) (by rfl) T.g69 T.F69.kp T.b69 .nil pass0 (pa_cons (pe_lst (pa_cons pe_str (pa_cons (pv 4) (StX.pa_star (pe_lc (own := [("term", 6)]) rfl sc_question_lines.nd (pi_tup (pv 5)) (blkOk_by (N := ["question", "lines", "head", "atoms", "table", "terms", "term"]) (sc := defScope s_question_lines) (by decide +kernel)) (fun _ _ _ _ _ => pg_name (i := 6) sc_question_lines.nd rfl (.inl rfl)) (fun _ _ _ _ _ => pts_nil) (fun _ _ _ _ _ => (pe_call G70 (hr.mono (by decide)) (by rfl) T.g70 T.F70.kp T.b70 .nil pass0 (pa_cons (pv 6) pa_nil)))) pa_nil)))) pa_nil)) pa_nil))))))))
  (pss_one (ps_ret (pv 1))))), ?_⟩
    obtain ⟨dx, l, hp, hl, hform⟩ := id hQ
    refine ⟨_, rfl, p, _, dx, _, _, rfl, hp, T.cl_57, T.no_57_width, flds_qw _ _ _, by show 2 ≤ sizeLine; decide, fun t1 h1 => ?_⟩
    have z1 := same_upd (o := .lst [.str "question", .int wi]) h1
    refine ⟨t1, _, ["question", nT wi], rfl, .of upd_same, .cons (wv_str (lit_sg _ (by simp))) (.cons ⟨.inr ⟨wi, rfl, rfl, big30 hwi⟩, by have := nT_len hwi; omega⟩ .nil), by show 2 ≤ 100; decide, fun H1 s1 => ⟨by show 1 ≤ sizeLine; decide, fun S hS => ?_⟩⟩
    have s01 := z1.trans s1
    have sS := same_upd (o := .lst [.str (joinS ["question", nT wi])]) hS
    have s02 := s01.trans sS
    have nCS : ¬ C S := (hO.same s01).new hS
    have hQ2 : QAt (a 57) p sp (fun x => C x ∨ x = S) n (upd H1 S (.lst [.str (joinS ["question", nT wi])])) wi ds := ⟨dx, l, s02 _ _ hp, ((hl.same s01).fresh hS).same sS, hform⟩
    have hO2 : Occ (fun x => C x ∨ x = S) (upd H1 S (.lst [.str (joinS ["question", nT wi])])) := fun x hx => by
      rcases hx with hx | rfl
      · exact (hO.same s02) x hx
      · exact ⟨_, upd_same⟩
    refine ⟨_, rfl, p, dx, _, rfl, s02 _ _ hp, rfl, (fun x => C x ∨ x = S), n, p, sp, wi, ds, rfl, hO2, hQ2, fun l2 H2 hl2 s2 => ?_⟩
    obtain ⟨l2', xs, k, ek, e0, nl2, hl2', l5, pr⟩ := hl2.asLst
    cases e0
    have hlen := Paired.length pr
    have hS2 := s2 _ _ (upd_same (a := S) (o := .lst [.str (joinS ["question", nT wi])]) (H := H1))
    have s03 := s02.trans s2
    have nlS : l2 ≠ S := fun e => nl2 (.inr e)
    refine ⟨l2, rfl, ⟨_, .of hl2'⟩, for_list (K := K) (a := l2) (xs := xs) (fun i σ H' => ∃ (y2 y3 y4 y5 : Option V), σ = [some (.ref p), some (.ref S), y2, y3, y4, y5, none] ∧ H' S = some (.lst ((linesD wi (ds.take i)).map V.str)) ∧ (∀ b o, b ≠ S → H2 b = some o → H' b = some o))
      ⟨none, none, none, none, rfl, hS2, fun _ _ _ e => e⟩ (fun i σ H' _ hp' => ?_) (fun i y σ H' hy hp' => ?_) (fun σ H' hp' => ?_)⟩
    · obtain ⟨y2, y3, y4, y5, rfl, _, o⟩ := hp'
      exact .of (o _ _ nlS hl2')
    · obtain ⟨y2, y3, y4, y5, rfl, hSv, o⟩ := hp'
      obtain ⟨e, he, hye⟩ := paired_at pr hy
      obtain ⟨hs, as, rfl, hs12, as20, hht, hat⟩ := hds e (List.mem_of_getElem? he)
      have keep : ∀ x o', ¬ (C x ∨ x = S) → H2 x = some o' → H' x = some o' := fun x o' hn e => o x o' (fun e' => hn (.inr e')) e
      obtain ⟨b, us, k', ek', rfl, nb, hb, _, pb⟩ := (hye.keep keep).asTup
      match us, pb with
      | [u, z], .cons hu (.cons hz .nil) =>
      obtain ⟨g, gs, kg, ekg, rfl, ng, hg, g5, pg⟩ := hu.asTup
      obtain ⟨c, zs, kc, ekc, rfl, nc, hc, c5, pc⟩ := hz.asLst
      have hlg := Paired.length pg
      have hlz := Paired.length pc
      refine ⟨b, _, rfl, .of hb, rfl, _, _, rfl, _, _, rfl, rfl, ?_⟩
      refine ⟨_, rfl, .inl ⟨rfl, _, .of hSv⟩, ?_⟩
      refine ⟨_, rfl, g, rfl, ⟨_, .of hg⟩, fun D hD => ?_⟩
      refine lc_tup (K := K) (a := g) (xs := gs) (fun j G => G D = some (.lst (((hs.take j).map termW).map V.str)) ∧ Same H' G) ⟨upd_same, same_upd hD⟩ (fun j G _ hp5 => .of (hp5.2 _ _ hg)) (fun j x G hx hp5 => ?_) (fun G hp5 => ?_)
      · obtain ⟨e5, he5, hxe⟩ := paired_at pg hx
        have lj : j < gs.length := (List.getElem?_eq_some_iff.mp hx).1
        refine ⟨rfl, _, rfl, _, _, x, e5, rfl, hxe.same hp5.2, hht e5 (List.mem_of_getElem? he5), _, hp5.1, ?_, ?_, fun b5 o5 eb => ?_⟩
        · rw [List.length_map, List.length_map, List.length_take]
          exact Nat.lt_of_le_of_lt (by omega : _ ≤ 5000) (by decide)
        · rw [map_take he5, List.map_append]
          exact upd_same
        · rw [upd_ne (ne_of_none eb hD)]
          exact hp5.2 b5 o5 eb
      obtain ⟨g1, sG⟩ := hp5
      rw [hlg, List.take_length] at g1
      refine ⟨D, _, rfl, .inr (.of g1), by rw [List.length_cons, List.append_nil, List.length_map, List.length_map]; exact Nat.le_of_lt (small1000 (by omega)), fun t ht => ?_⟩
      have zt := same_upd (o := .lst (.str "part" :: (((hs.map termW).map V.str) ++ []))) ht
      refine ⟨t, _, "part" :: hs.map termW, rfl, .of upd_same, .cons (wv_str (lit_sg _ (by simp))) (by rw [List.append_nil]; exact wvs_terms hht), by rw [List.length_cons, List.append_nil, List.length_map, List.length_map]; omega, fun G2 sG2 => ?_⟩
      have s4 : Same H' G2 := (sG.trans zt).trans sG2
      clear zt ht g1 hD
      have ll := lines_len (w := wi) (ds := ds.take i) fun x hx => hds x (List.mem_of_mem_take hx)
      have lt50 : (ds.take i).length ≤ 50 := by rw [List.length_take]; omega
      refine ⟨S, _, _, rfl, rfl, s4 _ _ hSv, by rw [List.length_map]; exact Nat.lt_of_le_of_lt (by omega : _ ≤ 2000) (by decide), ?_⟩
      have nSc : c ≠ S := fun e => nc (.inr e)
      have hc2 := s4 _ _ hc
      refine ⟨_, rfl, c, rfl, ⟨_, .of (by rw [upd_ne nSc]; exact hc2)⟩, ?_⟩
      refine for_list (K := K) (a := c) (xs := zs) (fun j σ G => ∃ (y4 y5 : Option V), σ = [some (.ref p), some (.ref S), some (.ref g), some (.ref c), y4, y5, none] ∧ G S = some (.lst ((linesD wi (ds.take i) ++ joinS ("part" :: hs.map termW) :: (as.take j).map atomL).map V.str)) ∧ (∀ b o', b ≠ S → H' b = some o' → G b = some o'))
        ⟨_, _, rfl, by rw [List.map_append]; exact upd_same, fun b5 o5 n5 e5 => by rw [upd_ne n5]; exact s4 _ _ e5⟩ (fun j σ G _ hp5 => ?_) (fun j y σ G hy5 hp5 => ?_) (fun σ G hp5 => ?_)
      · obtain ⟨y4, y5, rfl, _, o5⟩ := hp5
        exact .of (o5 _ _ nSc hc)
      · obtain ⟨y4', y5', rfl, hSj, o5⟩ := hp5
        obtain ⟨ea, hea, hya⟩ := paired_at pc hy5
        have ljz : j < zs.length := (List.getElem?_eq_some_iff.mp hy5).1
        obtain ⟨nm, ts, rfl, hw, t4, htt⟩ := hat ea (List.mem_of_getElem? hea)
        have keep5 : ∀ x o', ¬ (C x ∨ x = S) → H' x = some o' → G x = some o' := fun x o' hn e => o5 x o' (fun e' => hn (.inr e')) e
        obtain ⟨b2, us2, k2, ek2, rfl, _, hb2, _, pb2⟩ := (hya.keep keep5).asTup
        match us2, pb2 with
        | [u2, z2], .cons hu2 (.cons hz2 .nil) =>
        obtain ⟨rfl, _⟩ := hu2.asStr
        obtain ⟨T, ys, kt, ekt, rfl, _, hT, y5k, pT⟩ := hz2.asTup
        have hlT := Paired.length pT
        refine ⟨b2, _, rfl, .of hb2, rfl, _, _, rfl, _, _, rfl, rfl, ?_⟩
        refine ⟨_, rfl, .inl ⟨rfl, _, .of hSj⟩, ?_⟩
        refine ⟨_, rfl, _, rfl, T, rfl, ⟨_, .of hT⟩, fun D hD => ?_⟩
        refine lc_tup (K := K) (a := T) (xs := ys) (fun j G' => G' D = some (.lst (((ts.take j).map termW).map V.str)) ∧ Same G G') ⟨upd_same, same_upd hD⟩ (fun j G' _ hp6 => .of (hp6.2 _ _ hT)) (fun j x G' hx hp6 => ?_) (fun G' hp6 => ?_)
        · obtain ⟨e6, he6, hxe⟩ := paired_at pT hx
          have lj6 : j < ys.length := (List.getElem?_eq_some_iff.mp hx).1
          refine ⟨rfl, _, rfl, _, _, x, e6, rfl, hxe.same hp6.2, htt e6 (List.mem_of_getElem? he6), _, hp6.1, ?_, ?_, fun b5 o6 eb => ?_⟩
          · rw [List.length_map, List.length_map, List.length_take]
            exact Nat.lt_of_le_of_lt (by omega : _ ≤ 5000) (by decide)
          · rw [map_take he6, List.map_append]
            exact upd_same
          · rw [upd_ne (ne_of_none eb hD)]
            exact hp6.2 b5 o6 eb
        obtain ⟨g1, sG⟩ := hp6
        rw [hlT, List.take_length] at g1
        refine ⟨D, _, rfl, .inr (.of g1), by rw [List.length_cons, List.length_cons, List.append_nil, List.length_map, List.length_map]; exact Nat.le_of_lt (small1000 (by omega)), fun t ht => ?_⟩
        have zt := same_upd (o := .lst (.str "atom" :: .str nm :: (((ts.map termW).map V.str) ++ []))) ht
        refine ⟨t, _, "atom" :: nm :: ts.map termW, rfl, .of upd_same, .cons (wv_str (lit_sg _ (by simp))) (.cons (wv_str (wd_sg hw)) (by rw [List.append_nil]; exact wvs_terms htt)), by rw [List.length_cons, List.length_cons, List.append_nil, List.length_map, List.length_map]; omega, fun G2 sG2 => ?_⟩
        have s6 : Same G G2 := (sG.trans zt).trans sG2
        have ll2 : (linesD wi (ds.take i) ++ joinS ("part" :: hs.map termW) :: (as.take j).map atomL).length ≤ 2000 := by
          rw [List.length_append, List.length_cons, List.length_map, List.length_take]
          omega
        refine ⟨S, _, _, rfl, rfl, s6 _ _ hSj, by rw [List.length_map]; exact Nat.lt_of_le_of_lt ll2 (by decide), ?_⟩
        refine ⟨_, _, rfl, ?_, fun b5 o6 n5 e5 => by rw [upd_ne n5]; exact s6 _ _ (o5 b5 o6 n5 e5)⟩
        have el : linesD wi (ds.take i) ++ joinS ("part" :: hs.map termW) :: (as.take (j + 1)).map atomL = (linesD wi (ds.take i) ++ joinS ("part" :: hs.map termW) :: (as.take j).map atomL) ++ [joinS ("atom" :: nm :: ts.map termW)] := by
          rw [take_snoc hea, snoc_map, List.append_assoc]
          rfl
        rw [el, snoc_map]
        exact upd_same
      · obtain ⟨y4, y5, rfl, hSj, o5⟩ := hp5
        rw [hlz, List.take_length] at hSj
        refine ⟨_, _, _, _, rfl, ?_, fun b5 o' n5 e5 => o5 b5 o' n5 (o b5 o' n5 e5)⟩
        rw [hSj, take_snoc he]
        unfold linesD
        rw [List.flatMap_append]
        simp [partL, headOf, atomsOf]
    · obtain ⟨y2, y3, y4, y5, rfl, hSv, o⟩ := hp'
      rw [hlen, List.take_length] at hSv
      exact ⟨_, rfl, q S H' hSv fun b o' e => o b o' (ne_of_none (s01 _ _ e) hS) (s03 _ _ e)⟩
end
/-! ### an error with one field -/
def spI1 (fld : Str) (C : Addr) : Sp := fun vs H Q _ => ∃ (x : Addr) (v : V), vs = [.ref x, v] ∧ H x = some (exo x C none) ∧ ∀ dx, H dx = none → dx ≠ x → Q .non (upd (upd H dx (exd dx [(fld, v)])) x (exo x C (some dx)))
/-- how C(v) goes out: its dict dx, new -/
def Er1 (fld : Str) (C : Addr) (v : V) (H : Hp) (E : XK) : Prop := ∀ dx H', H dx = none → H' dx = some (.xd [(fld, v)]) → Same H H' → E (.ref C) (some dx) H'
theorem er1_raise {fld : Str} {C : Addr} {v : V} {H : Hp} {E : XK} (k : Er1 fld C v H E) : ([v] : List V).length ≤ 1000 ∧ ∀ x, H x = none → spI1 fld C (.ref x :: ([v] ++ [])) (upd H x (exo x C none))
    (fun u H2 => u = .non ∧ ∃ (dd : Addr) (fs : List (Str × V)), H2 x = some (exo x C (some dd)) ∧ H2 dd = some (exd dd fs) ∧ H dd = none ∧ E (.ref C) (some dd) (upd (del H2 x) dd (.xd fs))) (fun _ _ _ => False) := by
  refine ⟨by show 1 ≤ 1000; decide, fun x hx => ⟨x, v, rfl, upd_same, fun dx hdx ne => ⟨rfl, dx, _, upd_same, by rw [upd_ne ne]; exact upd_same, ?_, ?_⟩⟩⟩
  · rw [upd_ne ne] at hdx
    exact hdx
  · rw [upd_ne ne] at hdx
    refine k dx _ hdx upd_same fun b o e => ?_
    have nb : b ≠ x := ne_of_none e hx
    have nd : b ≠ dx := ne_of_none e hdx
    rw [upd_ne nd, del_ne nb, upd_ne nb, upd_ne nd, upd_ne nb]
    exact e
/-! ### the forms of lines -/
def nameO (s : Str) : Option PyData := if wordB s = true then some (.str s) else none
def numD (s : Str) : Option PyData := (numO s).map .int
def rd1 : List (Str → Option PyData) → List Str → Option (List PyData)
  | [], _ => some []
  | _ :: _, [] => some []
  | g :: gs, s :: ss => match g s with
    | none => none
    | some d => (rd1 gs ss).map (d :: ·)
def readO (gs : List (Str → Option PyData)) (more : Option (Str → Option PyData)) (ws : List Str) : Option (List PyData) :=
  if ws.length < gs.length then none else match more with
    | none => if gs.length < ws.length then none else rd1 gs ws
    | some g => rd1 (gs ++ List.replicate (ws.length - gs.length) g) ws
section
variable {P : Program} {w : World} {K : PySem.W.Frag} {mg : Str → Option Value} {base : Heap} {a : Nat → Addr} {d : Nat → FuncData}
def RdS (a : Nat → Addr) : Addr → Sp → Prop := fun f sp => (f = a 60 ∧ sp = spRdr nameO) ∨ (f = a 61 ∧ sp = spRdr numD) ∨ (f = a 63 ∧ sp = spRdr termO)
def RdF (a : Nat → Addr) (v : V) (g : Str → Option PyData) : Prop := ∃ f, v = .ref f ∧ RdS a f (spRdr g)
theorem held_rd (T : Txt K mg a d) : ∀ f sp, RdS a f sp → HeldX P w K mg base CX0 4 f sp := by
  rintro f sp (⟨rfl, rfl⟩ | ⟨rfl, rfl⟩ | ⟨rfl, rfl⟩)
  · refine ⟨_, _, ((ok_name T).mono (by decide)).imp (fun vs H Q E h => ?_), T.F60.kp, T.b60⟩
    obtain ⟨s, rfl, hl, hc, q0, q⟩ := h
    refine ⟨s, rfl, hl, hc, fun H' s' => ?_⟩
    by_cases e : wordB s = true
    · rw [if_pos e]
      exact q (.str s) (if_pos e) _ H' (fun C _ => Sc.da (.str s hl hc)) (fun z => nomatch z) s'
    · rw [if_neg e]
      exact q0 (if_neg e) H' s'
  · refine ⟨_, _, ((ok_number T).mono (by decide)).imp (fun vs H Q E h => ?_), T.F61.kp, T.b61⟩
    obtain ⟨s, rfl, hl, hc, q0, q⟩ := h
    refine ⟨s, rfl, hl, fun H' s' => ?_⟩
    cases e : numO s with
    | none => exact q0 (by unfold numD; rw [e]; rfl) H' s'
    | some n => exact q (.int n) (by unfold numD; rw [e]; rfl) _ H' (fun C _ => Sc.da (.int n)) (fun z => nomatch z) s'
  · exact ⟨_, _, ok_term3 T, T.F63.kp, T.b63⟩
abbrev Rdr := Str → Option PyData
def FormAt (K : PySem.W.Frag) (a : Nat → Addr) (H : Hp) (xf : V) : Option (List Rdr × Option Rdr) → Prop
  | none => xf = .non
  | some (gs, more) => ∃ (F u : Addr) (mv : V) (rs : List V), xf = .ref F ∧ SqT K H F [.ref u, mv] ∧ SqT K H u rs ∧ Paired (RdF a) rs gs ∧ (match more with
    | none => mv = .non
    | some g => RdF a mv g) ∧ gs.length ≤ 5
def readF (fo : Option (List Rdr × Option Rdr)) (ws : List Str) : Option (List PyData) := match fo with
  | none => none
  | some f => readO f.1 f.2 ws
def spRead (a : Nat → Addr) (K : PySem.W.Frag) : Sp := fun vs H Q _ => ∃ (xf : V) (W : Addr) (fo : Option (List Rdr × Option Rdr)) (ws : List Str), vs = [xf, .ref W] ∧ FormAt K a H xf fo ∧ H W = some (.lst (ws.map V.str)) ∧ (∀ s ∈ ws, s.length ≤ 1000 ∧ Low s) ∧ ws.length ≤ 200 ∧
  (readF fo ws = none → ∀ H', Same H H' → Q .non H') ∧ ∀ ds, readF fo ws = some ds → ∀ r xs H', H' r = some (.lst xs) → H r = none → (∀ C, Occ C H → Paired (DA C H' 1) xs ds) → Same H H' → Q (.ref r) H'
theorem paired_rep2 {α β : Type} {F : α → β → Prop} {x : α} {d : β} (h : F x d) : ∀ n : Nat, Paired F (List.replicate n [x]).flatten (List.replicate n d)
  | 0 => .nil
  | n + 1 => by
    rw [List.replicate_succ, List.replicate_succ, List.flatten_cons]
    exact .cons h (paired_rep2 h n)
theorem SqT.same {K : PySem.W.Frag} {H H' : Hp} {a : Addr} {xs : List V} (s : Same H H') (h : SqT K H a xs) : SqT K H' a xs := h.imp (fun r => r.imp (fun e => s _ _ e) (fun ⟨o, e⟩ => ⟨o, s _ _ e⟩)) id
theorem gName_run {i : Nat} {v : V} {σ : L2.St} {H : Hp} {Q : L2.St → Hp → Prop} (h : Q (σ.set i (some v)) H) : gName i v σ H Q := h
theorem rd1_take {gs : List (Str → Option PyData)} {ws : List Str} : ∀ {i : Nat} {ds : List PyData} {g : Str → Option PyData} {s : Str}, rd1 (gs.take i) (ws.take i) = some ds → gs[i]? = some g → ws[i]? = some s → (g s = none → rd1 gs ws = none) ∧ ∀ d, g s = some d → rd1 (gs.take (i + 1)) (ws.take (i + 1)) = some (ds ++ [d]) := by
  induction gs generalizing ws with
  | nil => intro i ds g s _ h; cases h
  | cons g0 gs ih =>
    intro i ds g s h hg hs
    cases ws with
    | nil => cases hs
    | cons s0 ss =>
      cases i with
      | zero =>
        cases hg
        cases hs
        cases h
        refine ⟨fun e => ?_, fun d e => ?_⟩
        · show (match g0 s with | none => none | some d => (rd1 gs ss).map (d :: ·)) = none
          rw [e]
        · show (match g0 s with | none => none | some d => (rd1 [] []).map (d :: ·)) = some [d]
          rw [e]
          rfl
      | succ i =>
        have h : (match g0 s0 with | none => none | some d => (rd1 (gs.take i) (ss.take i)).map (d :: ·)) = some ds := h
        cases e0 : g0 s0 with
        | none => rw [e0] at h; cases h
        | some d0 =>
          rw [e0] at h
          obtain ⟨ds', e', rfl⟩ := Option.map_eq_some_iff.mp h
          obtain ⟨i1, i2⟩ := ih e' hg hs
          refine ⟨fun e => ?_, fun d e => ?_⟩
          · show (match g0 s0 with | none => none | some d => (rd1 gs ss).map (d :: ·)) = none
            rw [e0, i1 e]
            rfl
          · show (match g0 s0 with | none => none | some d => (rd1 (gs.take (i + 1)) (ss.take (i + 1))).map (d :: ·)) = some (d0 :: ds' ++ [d])
            rw [e0, i2 d e]
            rfl
theorem ok_read (T : Txt K mg a d) : FnOk P w K mg base CX0 6 (a 65) (d 65) ["form", "words"] (spRead a K) := by
  have HRD : ∀ f sp, RdS a f sp → HeldX P w K mg base CX0 4 f sp := held_rd T
  refine T.F65.ok sc__read (fun vs H Q E h => ?_) (fun cdv A outer s H vs Q E hr h => ?_)
  · obtain ⟨xf, W, fo, ws, rfl, _⟩ := h
    rfl
  · obtain ⟨xf, W, fo, ws, rfl, hfo, hW, hws, l200, q0, q⟩ := h
    refine ⟨_, (pss_cons (ps_if (pt_cmpR op_isN (pv 0) pe_non (nomark _))
    (pss_one (ps_ret pe_non))
    pss_nil)
  (pss_cons (ps_asg (pv 0) (pg_tup rfl (pgs_cons (pg_name (i := 2) sc__read.nd rfl (.inl rfl)) (pgs_cons (pg_name (i := 3) sc__read.nd rfl (.inl rfl)) pgs_nil))))
  (pss_cons (ps_set (i := 4) sc__read.nd rfl (.inl rfl) (pe_op op_sub (pe_callB (id := "len")  call_len_seq (by rfl) T.z_len (by decide +kernel) (pa_cons (pv 1) pa_nil)) (pe_callB (id := "len")  call_len_seq (by rfl) T.z_len (by decide +kernel) (pa_cons (pv 2) pa_nil))))
  (pss_cons (ps_if (PW.pt (pw_or (pt_cmpR op_lt (pv 4) pe_int (nomark _)) (pw_or1 (PW.pt (pw_and (pt_cmpR op_isN (pv 3) pe_non (nomark _)) (pw_and1 (pt_cmpR op_gt (pv 4) pe_int (nomark _))))))))
    (pss_one (ps_ret pe_non))
    pss_nil)
  (pss_cons (ps_set (i := 5) sc__read.nd rfl (.inl rfl) (pe_lst pa_nil))
  (pss_cons (ps_for PassesOwn.never rfl (pi_zip (by rfl) T.z_zip (pa_cons (pe_lst (StX.pa_star (pv 2) (StX.pa_star (pe_op op_rep (pe_lst (pa_cons (pv 3) pa_nil)) (pv 4)) pa_nil))) (pa_cons (pv 1) pa_nil))) (pg_tup rfl (pgs_cons (pg_name (i := 6) sc__read.nd rfl (.inl rfl)) (pgs_cons (pg_name (i := 7) sc__read.nd rfl (.inl rfl)) pgs_nil)))
    (pss_cons (ps_set (i := 8) sc__read.nd rfl (.inl rfl) (pe_callAX (i := 6) HRD (hr.mono (by decide)) (by rfl) (.inl rfl) pass0 (pa_cons (pv 7) pa_nil)))
      (pss_cons (ps_if (pt_cmpR op_isN (pv 8) pe_non (nomark _))
        (pss_one (ps_ret pe_non))
        pss_nil)
      (pss_one (ps_expr (pe_bm PySem.F.plainAttrs_list PySem.F.slot_list_append PySem.F.type_list_append mt_append (pv 5) (pa_cons (pv 8) pa_nil)))))))
  (pss_one (ps_ret (pv 5))))))))), ?_⟩
    match fo, hfo with
    | none, hfo =>
      have hfo : xf = .non := hfo
      subst hfo
      exact ⟨_, rfl, rfl, _, rfl, ite_d (fun _ => q0 rfl H (Same.refl H)) (fun e => absurd rfl e)⟩
    | some (gs, more), hfo =>
    obtain ⟨F, u, mv, rs, rfl, hF, hu, prs, hm, g5⟩ := hfo
    have q0 : readO gs more ws = none → ∀ H', Same H H' → Q .non H' := q0
    have q : ∀ ds, readO gs more ws = some ds → ∀ r xs H', H' r = some (.lst xs) → H r = none → (∀ C, Occ C H → Paired (DA C H' 1) xs ds) → Same H H' → Q (.ref r) H' := q
    have hlr := Paired.length prs
    refine ⟨_, rfl, rfl, _, rfl, ite_d (fun e => nomatch e) (fun _ => ?_)⟩
    refine ⟨_, rfl, F, _, rfl, hF, rfl, _, _, rfl, _, _, rfl, rfl, ?_⟩
    refine ⟨_, rfl, W, _, rfl, .inl (.of hW), _, rfl, u, _, rfl, .inr hu, _, _, rfl, rfl, ?_⟩
    rw [List.length_map]
    refine gName_run ?_
    -- what the forms say
    have cases3 : (readO gs more ws = none ∧ (ws.length < gs.length ∨ (mv = .non ∧ gs.length < ws.length))) ∨ (gs.length ≤ ws.length ∧ (mv = .non → ws.length ≤ gs.length) ∧ ∃ g2, Paired (RdF a) (rs ++ ((List.replicate (ws.length - gs.length) [mv]).flatten ++ [])) g2 ∧ g2.length = ws.length ∧ readO gs more ws = rd1 g2 ws) := by
      unfold readO
      by_cases h1 : ws.length < gs.length
      · exact .inl ⟨if_pos h1, .inl h1⟩
      · rw [if_neg h1]
        cases more with
        | none =>
          by_cases h2 : gs.length < ws.length
          · exact .inl ⟨if_pos h2, .inr ⟨hm, h2⟩⟩
          · refine .inr ⟨by omega, fun _ => by omega, gs, ?_, by omega, if_neg h2⟩
            rw [show ws.length - gs.length = 0 by omega]
            exact (List.append_nil rs).symm ▸ prs
        | some g =>
          obtain ⟨f0, hf0, hf1⟩ := (show RdF a mv g from hm)
          refine .inr ⟨by omega, (fun e => by rw [hf0] at e; cases e), _, paired_app prs ?_, ?_, rfl⟩
          · rw [List.append_nil]
            exact paired_rep2 ⟨f0, hf0, hf1⟩ _
          · rw [List.length_append, List.length_replicate]
            omega
    rcases cases3 with ⟨hn, h2⟩ | ⟨hge, hnn, g2, p2, l2, e2⟩
    · by_cases h1 : ws.length < gs.length
      · refine ⟨_, rfl, _, _, rfl, rfl, _, rfl, ?_⟩
        refine ite_d (fun _ => ?_) (fun e => absurd (by omega) e)
        exact q0 hn H (Same.refl H)
      · obtain ⟨rfl, h3⟩ := h2.resolve_left h1
        refine ⟨_, rfl, _, _, rfl, rfl, _, rfl, ?_⟩
        refine ite_d (fun e => absurd e (by omega)) (fun _ => ?_)
        refine ⟨_, rfl, rfl, _, rfl, ?_⟩
        refine ⟨_, rfl, _, _, rfl, rfl, _, rfl, ?_⟩
        refine ite_d (fun _ => ?_) (fun e => absurd (by omega) e)
        exact q0 hn H (Same.refl H)
    · dsimp only
      refine seq_cut (t := tIfS _ _ _) fun N hN => ?_
      suffices rest : N [some (.ref F), some (.ref W), some (.ref u), some mv, some (.int ((ws.length : Int) - rs.length)), none, none, none, none] H by
        refine ⟨_, rfl, _, _, rfl, rfl, _, rfl, ?_⟩
        refine ite_d (fun e => absurd e (by omega)) (fun _ => ?_)
        refine ⟨_, rfl, rfl, _, rfl, ?_⟩
        refine ite_d (fun e => ?_) (fun _ => rest)
        refine ⟨_, rfl, _, _, rfl, rfl, _, rfl, ?_⟩
        exact ite_d (fun e' => absurd (hnn e) (by omega)) (fun _ => rest)
      refine hN _ _ (seq_cut (t := tAsg _ _) fun N2 hN2 => ?_)
      refine ⟨Nat.zero_le _, fun S hS => gName_run (hN2 _ _ ?_)⟩
      have hSv : upd H S (.lst []) S = some (.lst []) := upd_same
      have s1 := same_upd (o := .lst []) hS
      generalize upd H S (.lst []) = H1 at hSv s1 ⊢
      refine seq_cut (t := tFor _ _ _) fun N3 hN3 => ?_
      have hn : (((ws.length : Int) - rs.length).toNat) = ws.length - gs.length := by omega
      refine ⟨_, rfl, u, rs, rfl, .inl (SqT.same s1 hu), _, rfl, Nat.le_of_lt (small1000 (by rw [List.length_singleton]; omega)), fun p1 h1 => ⟨_, rfl, p1, _, [mv], rfl, rfl, upd_same, by omega, by omega, ?_, fun p4 h4 => ?_⟩⟩
      · rw [List.length_singleton, hn]
        exact Nat.le_of_lt (small1000 (by omega))
      rw [hn]
      have z1 := same_upd (o := .lst [mv]) h1
      have z4 := same_upd (o := .lst (List.replicate (ws.length - gs.length) [mv]).flatten) h4
      refine ⟨p4, _, rfl, .inr (.of upd_same), ?_, fun p3 h3 => ?_⟩
      · rw [Paired.length p2, l2]
        exact Nat.le_of_lt (small1000 (by omega))
      have z3 := same_upd (o := .lst (rs ++ ((List.replicate (ws.length - gs.length) [mv]).flatten ++ []))) h3
      generalize rs ++ ((List.replicate (ws.length - gs.length) [mv]).flatten ++ []) = X3 at p2 z3 ⊢
      have s2 := (z1.trans z4).trans z3
      have eX : upd (upd (upd H1 p1 (.lst [mv])) p4 (.lst (List.replicate (ws.length - gs.length) [mv]).flatten)) p3 (.lst X3) p3 = some (.lst X3) := upd_same
      generalize upd (upd (upd H1 p1 (.lst [mv])) p4 (.lst (List.replicate (ws.length - gs.length) [mv]).flatten)) p3 (.lst X3) = H2 at s2 eX ⊢
      have nS3 : p3 ≠ S := fun e => by
        have h5 : H1 p3 = none := by
          cases h6 : H1 p3 with
          | none => rfl
          | some o => rw [z4 _ _ (z1 _ _ h6)] at h3; cases h3
        rw [e, hSv] at h5
        cases h5
      have nSW : W ≠ S := ne_of_none hW hS
      have lX := Paired.length p2
      refine ⟨_, rfl, p3, W, X3, ws.map V.str, rfl, .of eX, .of (s2 _ _ (s1 _ _ hW)), for_it (walk_zip (K := K) (a := p3) (b := W) (xs := X3) (ys := ws.map V.str) (n := ws.length) (by rw [List.length_map]; omega)) (fun i σ G => ∃ (ys : List V) (ds : List PyData) (y6 y7 y8 : Option V), σ = [some (.ref F), some (.ref W), some (.ref u), some mv, some (.int ((ws.length : Int) - rs.length)), some (.ref S), y6, y7, y8] ∧ G S = some (.lst ys) ∧ rd1 (g2.take i) (ws.take i) = some ds ∧ (∀ C, Occ C H → Paired (DA (fun x => C x ∨ x = S) G 1) ys ds) ∧ ys.length = i ∧ ∀ b o, b ≠ S → H2 b = some o → G b = some o)
        ⟨[], [], none, none, none, rfl, s2 _ _ hSv, rfl, fun _ _ => .nil, rfl, fun _ _ _ e => e⟩ (fun i σ G _ hp => ?_) (fun i v σ G G' li hp hy => ?_) (fun σ G hp => ?_)⟩
      · obtain ⟨_, _, _, _, _, _, _, _, _, _, o⟩ := hp
        exact ⟨.of (o _ _ nS3 eX), .of (o _ _ nSW (s2 _ _ (s1 _ _ hW)))⟩
      · obtain ⟨ys, ds, y6, y7, y8, rfl, hGS, hd, hD, hl, o⟩ := hp
        obtain ⟨T', x, y, rfl, hT, rfl, hx, hy⟩ := hy
        obtain ⟨s, hs, rfl⟩ := map_at hy
        obtain ⟨g, hg, f, rfl, hf⟩ := paired_at p2 hx
        have zT := same_upd (o := .tup [.ref f, .str s]) hT
        have eT : upd G T' (.tup [.ref f, .str s]) T' = some (.tup [.ref f, .str s]) := upd_same
        generalize upd G T' (.tup [.ref f, .str s]) = G' at zT eT ⊢
        have sHG : Same H G' := fun b o' e => zT _ _ (o _ _ (ne_of_none e hS) (s2 _ _ (s1 _ _ e)))
        refine ⟨T', _, rfl, .of eT, rfl, _, _, rfl, _, _, rfl, rfl, ?_⟩
        have hsm := hws s (List.mem_of_getElem? hs)
        refine ⟨f, _, rfl, hf, _, rfl, s, rfl, hsm.1, hsm.2, fun e G3 s3 => ?_, fun d e v G3 hv nn s3 => ?_⟩
        · refine ⟨_, rfl, rfl, _, rfl, ite_d (fun _ => ?_) (fun e => absurd rfl e)⟩
          exact q0 (e2.trans ((rd1_take hd hg hs).1 e)) _ (sHG.trans s3)
        · refine ⟨_, rfl, rfl, _, rfl, ite_d (fun e => absurd e nn) (fun _ => ?_)⟩
          have hS3 := s3 _ _ (zT _ _ hGS)
          refine ⟨_, rfl, .inl ⟨rfl, _, .of hS3⟩, _, rfl, S, _, _, rfl, rfl, hS3, small1000 (by omega), ?_⟩
          refine ⟨_, _, _, _, _, rfl, upd_same, (rd1_take hd hg hs).2 d e, fun C hC => ?_, by rw [List.length_append, hl]; rfl, fun b o' nb e5 => ?_⟩
          · have kp : ∀ b o', ¬ (C b ∨ b = S) → G3 b = some o' → upd G3 S (.lst (ys ++ [v])) b = some o' := fun b o' nb e5 => by
              rw [upd_ne fun e => nb (.inr e)]
              exact e5
            refine paired_snoc (paired_imp (fun a b h => ((h.same zT).same s3).keep kp) (hD C hC)) ((hv _ ?_).keep kp)
            rintro x (hx | rfl)
            · exact (hC.same sHG) x hx
            · exact ⟨_, zT _ _ hGS⟩
          · rw [upd_ne nb]
            exact s3 _ _ (zT _ _ (o _ _ nb e5))
      · obtain ⟨ys, ds, y6, y7, y8, rfl, hGS, hd, hD, hl, o⟩ := hp
        refine hN3 _ _ ⟨_, rfl, ?_⟩
        rw [List.take_of_length_le (by omega), List.take_of_length_le (Nat.le_refl _)] at hd
        exact q ds (e2.trans hd) S ys G hGS hS (fun C hC => paired_imp (fun a b h => h.weak fun _ => .inl) (hD C hC)) fun b o' e => o _ _ (ne_of_none e hS) (s2 _ _ (s1 _ _ e))
theorem ok_ilinit (T : Txt K mg a d) : FnOk P w K mg base CX0 1 (a 1800) (d 1800) ["self", "at"] (spI1 "at" (a 8)) := by
  refine T.F1800.ok sc_InvalidLine___init__ (fun vs H Q E h => ?_) (fun cdv A outer s H vs Q E hr h => ?_)
  · obtain ⟨x, v, rfl, _⟩ := h
    rfl
  · obtain ⟨x, v, rfl, hx, q⟩ := h
    exact ⟨_, (pss_one (ps_ost (pv 0) (pv 1))), _, rfl, _, rfl, x, _, rfl, T.x_8, T.no_8_at, .inl ⟨hx, fun dx hdx ne => q dx hdx ne⟩⟩
def spReadAt (a : Nat → Addr) (K : PySem.W.Frag) (CI : Addr) : Sp := fun vs H Q E => ∃ (at' xf : V) (W : Addr) (fo : Option (List Rdr × Option Rdr)) (ws : List Str), vs = [at', xf, .ref W] ∧ FormAt K a H xf fo ∧ H W = some (.lst (ws.map V.str)) ∧ (∀ s ∈ ws, s.length ≤ 1000 ∧ Low s) ∧ ws.length ≤ 200 ∧
  (readF fo ws = none → ∀ H', Same H H' → Er1 "at" CI at' H' E) ∧ ∀ ds, readF fo ws = some ds → ∀ r xs H', H' r = some (.lst xs) → H r = none → (∀ C, Occ C H → Paired (DA C H' 1) xs ds) → Same H H' → Q (.ref r) H'
theorem ok_read_at (T : Txt K mg a d) : FnOk P w K mg base (L2.CX P w) 8 (a 66) (d 66) ["at", "form", "words"] (spReadAt a K (a 8)) := by
  have G65 : FnOk P w K mg base CX0 6 (a 65) (d 65) ["form", "words"] (spRead a K) := ok_read T
  have G1800 : FnOk P w K mg base CX0 1 (a 1800) (d 1800) ["self", "at"] (spI1 "at" (a 8)) := ok_ilinit T
  refine T.F66.okX sc__read_at (fun vs H Q E h => ?_) (fun cdv A outer s H vs Q E hr h => ?_)
  · obtain ⟨at', xf, W, fo, ws, rfl, _⟩ := h
    rfl
  · obtain ⟨at', xf, W, fo, ws, rfl, hfo, hW, hws, l2, q0, q⟩ := h
    refine ⟨_, (pss_cons (ps_set (i := 3) sc__read_at.nd rfl (.inl rfl) (pe_call G65 (hr.mono (by decide)) (by rfl) T.g65 T.F65.kp T.b65 .nil pass0 (pa_cons (pv 1) (pa_cons (pv 2) pa_nil))))
  (pss_cons (ps_if (pt_cmpR op_isN (pv 3) pe_non (nomark _))
    (pss_one (ps_raise rfl (takes_of rfl rfl rfl rfl) (pmk_oex T.x_8 T.in_8 T.ti_8 G1800 (hr.mono (by decide)) T.b1800 .nil pass0 (by rfl) T.cg_8 (pa_cons (pv 0) pa_nil))))
    pss_nil)
  (pss_one (ps_ret (pv 3))))), ?_⟩
    refine ⟨_, rfl, _, rfl, xf, W, fo, ws, rfl, hfo, hW, hws, l2, fun e H' s' => ?_, fun ds e r xs H' hr1 hr2 hD s' => ?_⟩
    · refine ⟨_, rfl, rfl, _, rfl, ite_d (fun _ => ?_) (fun e => absurd rfl e)⟩
      exact ⟨_, rfl, er1_raise (q0 e _ s')⟩
    · refine ⟨_, rfl, rfl, _, rfl, ite_d (fun e => nomatch e) (fun _ => ?_)⟩
      exact ⟨_, rfl, q ds e r xs H' hr1 hr2 hD s'⟩
end
/-! ### the lines of a question read -/
def qforms : List (Str × List Rdr × Option Rdr) := [("question", [numD], none), ("part", [], some termO), ("atom", [nameO], some termO)]
/-- the dict that the module wrote -/
structure TxtQ (K : PySem.W.Frag) (w : World) (a : Nat → Addr) : Prop where
  l : WDct K w (a 90064)
  f : ∀ x ∈ qforms, ∃ q, PySem.W.nsIn K (a 90064) x.1 = some (some (.ref q)) ∧ ∀ H, FormAt K a H (.ref q) (some x.2)
def splitW (s : Str) : List Str := Txt.split s " "
abbrev QSt := V × PyData × List PyData
/-- a line's words: it has its kind, and what it says -/
def addIn (x : PyData) : PyData → PyData
  | .tuple [h, .list as] => .tuple [h, .list (as ++ [x])]
  | p => p
def addAt (x : PyData) (ps : List PyData) : List PyData := match ps.getLast? with
  | none => []
  | some p => ps.dropLast ++ [addIn x p]
inductive LnD where
  | q (w : PyData) (r : List Str)
  | p (hs : List PyData) (r : List Str)
  | a (n : PyData) (ts : List PyData) (r : List Str)
/-- the words say it -/
def LnD.says : LnD → Str → Prop
  | .q w r, s => splitW s = ("question" : Str) :: r ∧ readO [numD] none r = some [w]
  | .p hs r, s => splitW s = ("part" : Str) :: r ∧ readO [] (some termO) r = some hs
  | .a n ts r, s => splitW s = ("atom" : Str) :: r ∧ readO [nameO] (some termO) r = some (n :: ts)
/-- the parts that lines make -/
def mkQ : List PyData → List LnD → List PyData
  | ps, [] => ps
  | ps, .q .. :: r => mkQ ps r
  | ps, .p hs _ :: r => mkQ (ps ++ [.tuple [.tuple hs, .list []]]) r
  | ps, .a n ts _ :: r => mkQ (addAt (.tuple [n, .tuple ts]) ps) r
theorem mkQ_snoc (y : LnD) : ∀ (xs : List LnD) (ps : List PyData), mkQ ps (xs ++ [y]) = mkQ (mkQ ps xs) [y]
  | [], _ => rfl
  | .q .. :: xs, ps => mkQ_snoc y xs ps
  | .p .. :: xs, ps => mkQ_snoc y xs _
  | .a .. :: xs, ps => mkQ_snoc y xs _
theorem addAt_last (x h : PyData) (as ps : List PyData) : addAt x (ps ++ [.tuple [h, .list as]]) = ps ++ [.tuple [h, .list (as ++ [x])]] := by
  unfold addAt
  rw [List.getLast?_concat, List.dropLast_concat]
  rfl
/-- the parts as they stand while lines are read -/
def PA (H0 : Hp) (C : Addr → Prop) (H : Hp) (L : Addr) (ps : List PyData) : Prop := (ps = [] ∧ H L = some (.lst [])) ∨ ∃ (xs0 : List V) (t c : Addr) (hv : V) (ys : List V) (ps0 : List PyData) (h : PyData) (as : List PyData),
  ps = ps0 ++ [.tuple [h, .list as]] ∧ H L = some (.lst (xs0 ++ [.ref t])) ∧ H t = some (.tup [hv, .ref c]) ∧ H c = some (.lst ys) ∧ c ≠ L ∧ ¬ C c ∧ ¬ C t ∧ H0 c = none ∧
  Paired (DA (fun x => C x ∨ x = L ∨ x = c) H 5) xs0 ps0 ∧ DA (fun x => C x ∨ x = L ∨ x = c) H 2 hv h ∧ Paired (DA (fun x => C x ∨ x = L ∨ x = c) H 3) ys as
theorem PA.same {H0 : Hp} {C : Addr → Prop} {H H' : Hp} {L : Addr} {ps : List PyData} (h : PA H0 C H L ps) (s : Same H H') : PA H0 C H' L ps := by
  rcases h with ⟨e, h⟩ | ⟨xs0, t, c, hv, ys, ps0, h, as, e, h1, h2, h3, h4, h5, h6, hn, h7, h8, h9⟩
  · exact .inl ⟨e, s _ _ h⟩
  · exact .inr ⟨xs0, t, c, hv, ys, ps0, h, as, e, s _ _ h1, s _ _ h2, s _ _ h3, h4, h5, h6, hn, paired_imp (fun _ _ h => h.same s) h7, h8.same s, paired_imp (fun _ _ h => h.same s) h9⟩
/-- at the end they are a list of things -/
theorem PA.done {H0 : Hp} {C : Addr → Prop} {H : Hp} {L : Addr} {ps : List PyData} (h : PA H0 C H L ps) (hC : ¬ C L) (l : ps.length ≤ 5000) (l2 : ∀ h as, .tuple [h, .list as] ∈ ps → as.length ≤ 5000) : DA C H 6 (.ref L) (.list ps) := by
  rcases h with ⟨rfl, h⟩ | ⟨xs0, t, c, hv, ys, ps0, h, as, rfl, h1, h2, h3, h4, h5, h6, hn, h7, h8, h9⟩
  · exact .lst hC h (Nat.zero_le _) .nil
  · have w : ∀ {n v d}, DA (fun x => C x ∨ x = L ∨ x = c) H n v d → DA C H n v d := fun h => h.weak fun _ => .inl
    have e9 := Paired.length h9
    have e7 := Paired.length h7
    have las := l2 h as (by simp)
    rw [List.length_append, List.length_singleton] at l
    refine .lst hC h1 (by rw [List.length_append, List.length_singleton]; omega) (paired_app (paired_imp (fun _ _ h => w h) h7) (.cons ?_ .nil))
    exact .tup h6 h2 (by show 2 ≤ 5000; decide) (.cons ((w h8).up (by decide)) (.cons (.lst h5 h3 (by omega) (paired_imp (fun _ _ h => w h) h9)) .nil))
theorem PA.froz {H0 : Hp} {C : Addr → Prop} {H : Hp} {L : Addr} {ps : List PyData} (h : PA H0 C H L ps) (l2 : ∀ h as, .tuple [h, .list as] ∈ ps → as.length ≤ 5000) {c : Addr} (hc : H c = none) : ∃ xs, H L = some (.lst xs) ∧ Paired (DA (fun x => C x ∨ x = L ∨ x = c) H 5) xs ps := by
  have w2 : ∀ {n v d}, DA (fun x => C x ∨ x = L) H n v d → DA (fun x => C x ∨ x = L ∨ x = c) H n v d := fun h => (h.fresh hc).weak fun _ h => h.elim (fun h => .inl (.inl h)) fun h => h.elim (fun h => .inl (.inr h)) .inr
  rcases h with ⟨rfl, h⟩ | ⟨xs0, t, c0, hv, ys, ps0, h, as, rfl, h1, h2, h3, h4, h5, h6, hn, h7, h8, h9⟩
  · exact ⟨[], h, .nil⟩
  · have w : ∀ {n v d}, DA (fun x => C x ∨ x = L ∨ x = c0) H n v d → DA (fun x => C x ∨ x = L) H n v d := fun h => h.weak fun _ h => h.elim .inl fun h => .inr (.inl h)
    have e9 := Paired.length h9
    have las := l2 h as (by simp)
    refine ⟨_, h1, paired_app (paired_imp (fun _ _ h => w2 (w h)) h7) (.cons (w2 ?_) .nil)⟩
    refine .tup (fun e => e.elim h6 fun e => ?_) h2 (by show 2 ≤ 5000; decide) (.cons ((w h8).up (by decide)) (.cons (.lst (fun e => e.elim h5 h4) h3 (by omega) (paired_imp (fun _ _ h => w h) h9)) .nil))
    rw [e, h1] at h2
    cases h2
theorem rd1_len : ∀ {gs : List Rdr} {ws : List Str} {ds : List PyData}, rd1 gs ws = some ds → ds.length ≤ ws.length
  | [], ws, ds, h => by cases h; exact Nat.zero_le _
  | _ :: _, [], ds, h => by cases h; exact Nat.zero_le _
  | g :: gs, s :: ss, ds, h => by
    have h : (match g s with | none => none | some d => (rd1 gs ss).map (d :: ·)) = some ds := h
    cases e : g s with
    | none => rw [e] at h; cases h
    | some d =>
      rw [e] at h
      obtain ⟨ds', e', rfl⟩ := Option.map_eq_some_iff.mp h
      have := rd1_len e'
      rw [List.length_cons, List.length_cons]
      omega
theorem readO_len {gs : List Rdr} {more : Option Rdr} {ws : List Str} {ds : List PyData} (h : readO gs more ws = some ds) : ds.length ≤ ws.length := by
  unfold readO at h
  split at h
  · cases h
  · cases more with
    | none =>
      have h : (if gs.length < ws.length then none else rd1 gs ws) = some ds := h
      split at h
      · cases h
      · exact rd1_len h
    | some g => exact rd1_len h
theorem cut_tail (x : V) (xs : List V) : cutV (x :: xs) (some 1) none = xs := by
  unfold cutV
  rw [HT.sIx_none, show (some (1 : Int)) = some ((1 : Nat) : Int) from rfl, HT.sIx_nat]
  rw [List.length_cons, Nat.min_eq_left (by omega)]
  exact List.take_of_length_le (by simp)
section
variable {P : Program} {w : World} {K : PySem.W.Frag} {mg : Str → Option Value} {base : Heap} {a : Nat → Addr} {d : Nat → FuncData}
def LineOk (s : Str) : Prop := s.length ≤ 10000 ∧ (splitW s).length ≤ 200 ∧ ∀ x ∈ splitW s, x.length ≤ 1000 ∧ Low x
def LnD.isQ : LnD → Bool
  | .q .. => true
  | _ => false
def LnD.isA : LnD → Bool
  | .a .. => true
  | _ => false
def spReadQ (a : Nat → Addr) (K : PySem.W.Frag) (CS CQ CE : Addr) : Sp := fun vs H Q E => ∃ (C : Addr → Prop) (sp L : Addr) (ts : List (Str × Int)) (ks : List KeyE) (ss : List SvE) (m ms : Nat) (wi : Int) (r0 : List Str) (ys : List LnD) (ls : List Str), vs = [.ref sp, .ref L] ∧ Occ C H ∧ SchAt CS sp H ts ks ss m ms ∧ H L = some (.lst (ls.map V.str)) ∧ ls.length ≤ 3000 ∧ (∀ l ∈ ls, LineOk l) ∧
  Paired LnD.says (.q (.int wi) r0 :: ys) ls ∧ (∀ y ∈ ys, y.isQ = false) ∧ (∀ i y, ys[i]? = some y → y.isA = true → mkQ [] (ys.take i) ≠ []) ∧
  (dueD ts (.int wi) (.list (mkQ [] ys)) = none → ∀ q dx l H', H q = none → H' q = some (.ins CQ dx (fldsQ sp (.int wi) l)) → DA C H' 6 (.ref l) (.list (mkQ [] ys)) → Same H H' → Q (.ref q) H') ∧
  (∀ s i, dueD ts (.int wi) (.list (mkQ [] ys)) = some (s, i) → ∀ H', Same H H' → Er2 CE "part" "at" (.str s) (.int i) H' E)
theorem ok_rdq (T : Txt K mg a d) (W : TxtQ K w a) : FnOk P w K mg base (L2.CX P w) 9 (a 67) (d 67) ["schema", "lines"] (spReadQ a K (a 43) (a 57) (a 7)) := by
  have G66 : FnOk P w K mg base (L2.CX P w) 8 (a 66) (d 66) ["at", "form", "words"] (spReadAt a K (a 8)) := ok_read_at T
  have G1800 : FnOk P w K mg base CX0 1 (a 1800) (d 1800) ["self", "at"] (spI1 "at" (a 8)) := ok_ilinit T
  have G6700 : FnOk P w K mg base (L2.CX P w) 7 (a 6700) (d 6700) ["self", "schema", "width", "parts"] (spQInit (a 43) (a 57) (a 7)) := ok_qinit T
  refine T.F67.okX sc_read_question (fun vs H Q E h => ?_) (fun cdv A outer s H vs Q E hr h => ?_)
  · obtain ⟨C, sp, L, ts, ks, ss, m, ms, wi, r0, ys, ls, rfl, _⟩ := h
    rfl
  · obtain ⟨C, sp, L, ts, ks, ss, m, ms, wi, r0, ys, ls, rfl, hO, hS, hL, l3, hok, hp, hq, ha, q0, q1⟩ := h
    refine ⟨_, (pss_cons (ps_set (i := 2) sc_read_question.nd rfl (.inl rfl) pe_non)
  (pss_cons (ps_set (i := 3) sc_read_question.nd rfl (.inl rfl) (pe_lst pa_nil))
  (pss_cons (ps_for (passes_of rfl) rfl (pi_enum (by rfl) T.z_enumerate (pa_cons (pv 1) pa_nil)) (pg_tup rfl (pgs_cons (pg_name (i := 4) sc_read_question.nd rfl (.inl rfl)) (pgs_cons (pg_name (i := 5) sc_read_question.nd rfl (.inl rfl)) pgs_nil)))
    (pss_cons (ps_set (i := 6) sc_read_question.nd rfl (.inl rfl) (pe_split (pv 5) pe_str))
      (pss_cons (ps_set (i := 7) sc_read_question.nd rfl (.inl rfl) (pe_ix ix_list (pv 6) pe_int (fun _ _ => rfl)))
      (pss_cons (ps_set (i := 8) sc_read_question.nd rfl (.inl rfl) (pe_call G66 (hr.mono (by decide)) (by rfl) T.g66 T.F66.kp T.b66 .nil (passes_call (takes_of rfl rfl rfl rfl) (fun _ _ _ _ h => h)) (pa_cons (pv 4) (pa_cons (pe_wget1 (pe_glob (v := .ref (a 90064)) (by rfl) T.wg__QUESTION_FORMS rfl) (pv 7) ⟨rfl, rfl, rfl, rfl⟩) (pa_cons (pe_slice sl_list (pv 6) (po_some pe_int) po_none) pa_nil)))))
      (pss_cons (ps_if (PW.pt (pw_or (pt_cmpR op_ne (pe_cmpR op_eq (pv 7) pe_str (nomark _)) (pe_cmpR op_eq (pv 4) pe_int (nomark _)) (nomark _)) (pw_or1 (PW.pt (pw_and (pt_cmpR op_eq (pv 7) pe_str (nomark _)) (pw_and1 (pt_not (pt_truth (pv 3) (by intro _; rfl)))))))))
        (pss_one (ps_raise rfl (takes_of rfl rfl rfl rfl) (pmk_oex T.x_8 T.in_8 T.ti_8 G1800 (hr.mono (by decide)) T.b1800 .nil pass0 (by rfl) T.cg_8 (pa_cons (pv 4) pa_nil))))
        pss_nil)
      (pss_one (ps_if (pt_cmpR op_eq (pv 7) pe_str (nomark _))
        (pss_one (ps_set (i := 2) sc_read_question.nd rfl (.inl rfl) (pe_ix ix_list (pv 8) pe_int (fun _ _ => rfl))))
        (pss_one (ps_if (pt_cmpR op_eq (pv 7) pe_str (nomark _))
            (pss_one (ps_expr (pe_bm PySem.F.plainAttrs_list PySem.F.slot_list_append PySem.F.type_list_append mt_append (pv 3) (pa_cons (pe_tup (pa_cons (pe_callTy (T := "tuple")  call_tuple_of (by rfl) T.z_tuple (by decide +kernel) (pa_cons (pv 8) pa_nil)) (pa_cons (pe_lst pa_nil) pa_nil))) pa_nil))))
            (pss_one (ps_expr (pe_bm PySem.F.plainAttrs_list PySem.F.slot_list_append PySem.F.type_list_append mt_append (pe_ix ix_tup (pe_ix ix_list (pv 3) (pe_un un_neg pe_int) (fun _ _ => rfl)) pe_int (fun _ _ => rfl)) (pa_cons (pe_tup (pa_cons (pe_ix ix_list (pv 8) pe_int (fun _ _ => rfl)) (pa_cons (pe_callTy (T := "tuple")  call_tuple_of (by rfl) T.z_tuple (by decide +kernel) (pa_cons (pe_slice sl_list (pv 8) (po_some pe_int) po_none) pa_nil)) pa_nil))) pa_nil)))))))))))))
  (pss_cons (ps_if (pt_cmpR op_isN (pv 2) pe_non (nomark _))
    (pss_one (ps_raise rfl (takes_of rfl rfl rfl rfl) (pmk_oex T.x_8 T.in_8 T.ti_8 G1800 (hr.mono (by decide)) T.b1800 .nil pass0 (by rfl) T.cg_8 (pa_cons pe_int pa_nil))))
    pss_nil)
  (pss_one (ps_ret (pe_make T.M_57 G6700 (hr.mono (by decide)) (by rfl) T.cg_57 T.b6700 .nil (passes_call (takes_of rfl rfl rfl rfl) (fun _ _ _ _ h => h)) (pa_cons (pv 0) (pa_cons (pv 2) (pa_cons (pv 3) pa_nil)))))))))), ?_⟩
    refine ⟨Nat.zero_le _, fun Pl hPl => ?_⟩
    have nPl := hO.new hPl
    have s1 := same_upd (o := .lst []) hPl
    have e1 : upd H Pl (.lst []) Pl = some (.lst []) := upd_same
    generalize upd H Pl (.lst []) = H1 at s1 e1 ⊢
    have lp := Paired.length hp
    refine ⟨_, rfl, L, ls.map V.str, rfl, .of (s1 _ _ hL), for_it (walk_enum (K := K) (a := L) (xs := ls.map V.str)) (fun i σ G => ∃ (ps : List PyData) (wv : V) (y4 y5 y6 y7 y8 : Option V), σ = [some (.ref sp), some (.ref L), some wv, some (.ref Pl), y4, y5, y6, y7, y8] ∧ PA H C G Pl ps ∧ (i = 0 → ps = [] ∧ wv = .non) ∧ (0 < i → wv = .int wi ∧ ps = mkQ [] (ys.take (i - 1))) ∧ ps.length ≤ i ∧ (∀ h as, PyData.tuple [h, .list as] ∈ ps → as.length ≤ i) ∧ Same H G)
      ⟨[], .non, none, none, none, none, none, rfl, .inl ⟨rfl, e1⟩, fun _ => ⟨rfl, rfl⟩, (fun h => absurd h (Nat.lt_irrefl 0)), Nat.le_refl _, (fun h as z => nomatch z), s1⟩ (fun i σ G _ hp' => ?_) (fun i v σ G G' li hp' hy => ?_) (fun σ G hp' => ?_)⟩
    · obtain ⟨_, _, _, _, _, _, _, _, _, _, _, _, _, sG⟩ := hp'
      exact .of (sG _ _ hL)
    · obtain ⟨ps, wv, y4, y5, y6, y7, y8, rfl, hPA, i0, i1, b1, b2, sG⟩ := hp'
      obtain ⟨T', x, y, rfl, hT, rfl, hx, hy⟩ := hy
      cases hx
      obtain ⟨ln, hln, rfl⟩ := map_at hy
      have hlo := hok ln (List.mem_of_getElem? hln)
      have zT := same_upd (o := .tup [.int (i : Nat), .str ln]) hT
      have eT : upd G T' (.tup [.int (i : Nat), .str ln]) T' = some (.tup [.int (i : Nat), .str ln]) := upd_same
      generalize upd G T' (.tup [.int (i : Nat), .str ln]) = G1 at zT eT ⊢
      refine ⟨T', _, rfl, .of eT, rfl, _, _, rfl, _, _, rfl, rfl, ?_⟩
      refine ⟨_, rfl, ⟨_, rfl⟩, _, _, rfl, rfl, by decide, ?_, fun W1 hW1 => ?_⟩
      · exact Nat.le_trans (Nat.add_le_add_right hlo.1 2) (by decide)
      have zW := same_upd (o := .lst ((Txt.split ln " ").map V.str)) hW1
      have eW : upd G1 W1 (.lst ((Txt.split ln " ").map V.str)) W1 = some (.lst ((splitW ln).map V.str)) := upd_same
      generalize upd G1 W1 (.lst ((Txt.split ln " ").map V.str)) = G2 at zW eW ⊢
      have lyn : i < ((LnD.q (.int wi) r0) :: ys).length := by rw [lp]; exact (List.getElem?_eq_some_iff.mp hln).1
      have hz := List.getElem?_eq_getElem lyn
      generalize ((LnD.q (.int wi) r0) :: ys)[i] = z at hz
      obtain ⟨ln', hl2, hsay⟩ := paired_at hp hz
      rw [hln] at hl2
      cases hl2
      have zi : ∀ j, i = j + 1 → ys[j]? = some z := fun j e => by rw [e] at hz; exact hz
      obtain ⟨k, r, fo, ds, hs, hk, hd, hcase⟩ : ∃ (k : Str) (r : List Str) (fo : List Rdr × Option Rdr) (ds : List PyData), splitW ln = k :: r ∧ (k, fo) ∈ qforms ∧ readO fo.1 fo.2 r = some ds ∧ ((k = "question" ∧ ds = [.int wi] ∧ i = 0) ∨ (k = "part" ∧ z = .p ds r ∧ 0 < i) ∨ (k = "atom" ∧ ∃ n t, ds = n :: t ∧ z = .a n t r ∧ 0 < i ∧ ps ≠ [])) := by
        by_cases ei : i = 0
        · subst ei
          cases hz
          exact ⟨_, _, ([numD], none), _, hsay.1, by simp [qforms], hsay.2, .inl ⟨rfl, rfl, rfl⟩⟩
        · obtain ⟨j, rfl⟩ : ∃ j, i = j + 1 := ⟨i - 1, by omega⟩
          have hyj := zi j rfl
          cases z with
          | q w r =>
            have := hq _ (List.mem_of_getElem? hyj)
            cases this
          | p hs r => exact ⟨_, _, ([], some termO), _, hsay.1, by simp [qforms], hsay.2, .inr (.inl ⟨rfl, rfl, by omega⟩)⟩
          | a n t r => exact ⟨_, _, ([nameO], some termO), _, hsay.1, by simp [qforms], hsay.2, .inr (.inr ⟨rfl, n, t, rfl, rfl, by omega, by rw [(i1 (by omega)).2]; exact ha j _ hyj rfl⟩)⟩
      rw [hs, List.map_cons] at eW
      have hwk := hlo.2.2
      have hwl := hlo.2.1
      rw [hs] at hwk hwl
      rw [List.length_cons] at hwl
      refine ⟨_, rfl, W1, _, _, _, rfl, rfl, .of eW, atI_nat (j := 0) rfl, ?_⟩
      obtain ⟨qf, hqf, hform⟩ := W.f _ hk
      refine ⟨_, rfl, _, rfl, W.l, _, rfl, k, rfl, .inl ⟨.ref qf, .ref qf, hqf, rfl, ?_⟩⟩
      refine ⟨_, rfl, _, rfl, W1, _, rfl, .of eW, fun R1 hR1 => ?_⟩
      have zR := same_upd (o := .lst (cutV (V.str k :: r.map V.str) (some 1) none)) hR1
      have eR : upd G2 R1 (.lst (cutV (V.str k :: r.map V.str) (some 1) none)) R1 = some (.lst (r.map V.str)) := by rw [cut_tail]; exact upd_same
      generalize upd G2 R1 (.lst (cutV (V.str k :: r.map V.str) (some 1) none)) = G3 at zR eR ⊢
      refine ⟨_, _, R1, some fo, r, rfl, hform _, eR, fun x hx => hwk x (List.mem_cons_of_mem _ hx), by omega, (fun e => by rw [show readF (some fo) r = readO fo.1 fo.2 r from rfl, hd] at e; cases e), fun ds' e r2 xs G4 hr2 hr3 hD s4 => ?_⟩
      have e : ds = ds' := by
        rw [show readF (some fo) r = readO fo.1 fo.2 r from rfl, hd] at e
        exact Option.some.inj e
      subst e
      have sGG := ((zT.trans zW).trans zR).trans s4
      have hPA4 := hPA.same sGG
      have sG4 := sG.trans sGG
      refine gName_run ?_
      dsimp only
      refine seq_cut (t := tIfS _ _ _) fun N hN => ?_
      obtain ⟨b, h1, h2⟩ : ∃ b, decide (V.str k = V.str ("question" : Str)) = b ∧ decide (V.int (i : Nat) = V.int 0) = b := by
        rcases hcase with ⟨rfl, _, rfl⟩ | ⟨rfl, _, h⟩ | ⟨rfl, _, _, _, _, h, _⟩
        · exact ⟨true, by decide +kernel, by decide +kernel⟩
        · exact ⟨false, by decide +kernel, decide_eq_false fun e => by have := V.int.inj e; omega⟩
        · exact ⟨false, by decide +kernel, decide_eq_false fun e => by have := V.int.inj e; omega⟩
      suffices rest : N [some (.ref sp), some (.ref L), some wv, some (.ref Pl), some (.int (i : Nat)), some (.str ln), some (.ref W1), some (.str k), some (.ref r2)] G4 by
        refine ⟨_, rfl, rfl, _, rfl, rfl, rfl, false, ?_, ?_⟩
        · rw [h1, h2]
          cases b <;> rfl
        refine ifF ?_
        refine ⟨_, rfl, rfl, _, rfl, ite_d (fun hc => ?_) (fun _ => rest)⟩
        have hne : ps ≠ [] := by
          rcases hcase with ⟨rfl, _, rfl⟩ | ⟨rfl, _, h⟩ | ⟨rfl, _, _, _, _, _, h⟩
          · exact absurd hc (by decide +kernel)
          · exact absurd hc (by decide +kernel)
          · exact h
        rcases hPA4 with ⟨e, _⟩ | ⟨xs0, t, c, hv, ys', ps0, h, as, rfl, e1, _⟩
        · exact absurd e hne
        · refine ⟨_, rfl, true, .inl ⟨_, .of e1, ?_⟩, rest⟩
          cases xs0 <;> rfl
      refine hN _ _ ?_
      have nPlG : ∀ {x : Addr}, G4 x = none → x ≠ Pl := fun h e => by
        rw [e] at h
        rcases hPA4 with ⟨_, e1⟩ | ⟨_, _, _, _, _, _, _, _, _, e1, _⟩ <;> rw [e1] at h <;> cases h
      have lds := Paired.length (hD C (hO.same (sG.trans ((zT.trans zW).trans zR))))
      rcases hcase with ⟨rfl, rfl, rfl⟩ | ⟨rfl, rfl, hi⟩ | ⟨rfl, n, t, rfl, rfl, hi, hne⟩
      · obtain ⟨rfl, rfl⟩ := i0 rfl
        refine ⟨_, rfl, rfl, _, rfl, ite_d (fun _ => ?_) (fun e => absurd rfl e)⟩
        match xs, hD C (hO.same (sG.trans ((zT.trans zW).trans zR))) with
        | [x], .cons hx .nil =>
        have := hx.asInt
        subst this
        exact ⟨_, rfl, r2, _, _, _, rfl, rfl, .of hr2, atI_nat (j := 0) rfl, [], _, _, _, _, _, _, rfl, hPA4, (fun h => absurd h (by decide)), (fun _ => ⟨rfl, rfl⟩), by decide, (fun h as z => nomatch z), sG4⟩
      · refine ⟨_, rfl, rfl, _, rfl, ite_d (fun e => absurd e (by decide +kernel)) (fun _ => ?_)⟩
        refine ⟨_, rfl, rfl, _, rfl, ite_d (fun _ => ?_) (fun e => absurd rfl e)⟩
        obtain ⟨j, rfl⟩ : ∃ j, i = j + 1 := ⟨i - 1, by omega⟩
        obtain ⟨rfl, eps⟩ := i1 (by omega)
        have hyj := zi j rfl
        have lxs : xs.length ≤ 200 := by
          have := readO_len hd
          omega
        obtain ⟨xsO, hPl4⟩ : ∃ xs, G4 Pl = some (.lst xs) := by
          rcases hPA4 with ⟨_, e1⟩ | ⟨_, _, _, _, _, _, _, _, _, e1, _⟩ <;> exact ⟨_, e1⟩
        have hO4 := hO.same sG4
        have hO3 : Occ (fun x => C x ∨ x = Pl) G3 := by
          rintro x (hx | rfl)
          · exact (hO.same (sG.trans ((zT.trans zW).trans zR))) x hx
          · rcases hPA with ⟨_, e1⟩ | ⟨_, _, _, _, _, _, _, _, _, e1, _⟩ <;> exact ⟨_, ((zT.trans zW).trans zR) _ _ e1⟩
        have hDx := hD _ hO3
        refine ⟨_, rfl, .inl ⟨rfl, _, .of hPl4⟩, ?_⟩
        refine ⟨_, rfl, r2, xs, rfl, .inl ⟨.of hr2, fun tt htt => ?_⟩⟩
        have nC1 := hO4.new htt
        have nP1 := nPlG htt
        have z5 := same_upd (o := .tup xs) htt
        have e5 : upd G4 tt (.tup xs) tt = some (.tup xs) := upd_same
        generalize upd G4 tt (.tup xs) = G5 at z5 e5 ⊢
        refine ⟨Nat.zero_le _, fun c hc => ?_⟩
        have nC2 := (hO4.same z5).new hc
        have nP2 : c ≠ Pl := fun e => by rw [e, z5 _ _ hPl4] at hc; cases hc
        have n12 : tt ≠ c := ne_of_none e5 hc
        have nH2 : H c = none := by
          cases eH : H c with
          | none => rfl
          | some o => rw [z5 _ _ (sG4 _ _ eH)] at hc; cases hc
        obtain ⟨xsP, hPl5, prP⟩ := (hPA4.same z5).froz (fun h as hm => Nat.le_trans (b2 h as hm) (by have := (List.getElem?_eq_some_iff.mp hln).1; omega)) hc
        have hDx := paired_imp (fun _ _ h => DA.weak (C' := fun x => C x ∨ x = Pl ∨ x = c) (fun _ h => h.elim (fun h => .inl (.inl h)) fun h => h.elim (fun h => .inl (.inr h)) .inr) ((DA.same h z5).fresh hc)) hDx
        have dtt : DA (fun x => C x ∨ x = Pl ∨ x = c) G5 2 (.ref tt) (.tuple ds) := .tup (fun h => h.elim nC1 fun h => h.elim nP1 n12) e5 (by omega) hDx
        have z6 := same_upd (o := .lst []) hc
        have e6 : upd G5 c (.lst []) c = some (.lst []) := upd_same
        generalize upd G5 c (.lst []) = G6 at z6 e6 ⊢
        refine ⟨by show 2 ≤ sizeLine; decide, fun tp htp => ?_⟩
        have nC3 := ((hO4.same z5).same z6).new htp
        have hPl6 := z6 _ _ hPl5
        have nP3 : tp ≠ Pl := fun e => by rw [e, hPl6] at htp; cases htp
        have z7 := same_upd (o := .tup [.ref tt, .ref c]) htp
        have e7 : upd G6 tp (.tup [.ref tt, .ref c]) tp = some (.tup [.ref tt, .ref c]) := upd_same
        generalize upd G6 tp (.tup [.ref tt, .ref c]) = G7 at z7 e7 ⊢
        have s57 := z6.trans z7
        have kp : ∀ b o', ¬ (C b ∨ b = Pl ∨ b = c) → G7 b = some o' → upd G7 Pl (.lst (xsP ++ [.ref tp])) b = some o' := fun b o' nb e => by
          rw [upd_ne fun e => nb (.inr (.inl e))]
          exact e
        have lP := Paired.length prP
        refine ⟨Pl, xsP, .ref tp, rfl, rfl, z7 _ _ hPl6, ?_, ?_⟩
        · have := (List.getElem?_eq_some_iff.mp hln).1
          exact Nat.lt_of_le_of_lt (by omega : _ ≤ 3000) (by decide)
        refine ⟨ps ++ [.tuple [.tuple ds, .list []]], .int wi, _, _, _, _, _, rfl, .inr ⟨xsP, tp, c, .ref tt, [], ps, .tuple ds, [], rfl, upd_same, ?_, ?_, nP2, nC2, nC3, nH2, ?_, ?_, .nil⟩, (fun h => absurd h (by omega)), (fun _ => ⟨rfl, ?_⟩), ?_, ?_, ?_⟩
        · rw [upd_ne nP3]
          exact e7
        · rw [upd_ne nP2]
          exact z7 _ _ e6
        · exact paired_imp (fun _ _ h => (DA.same h s57).keep kp) prP
        · exact (dtt.same s57).keep kp
        · show _ = mkQ [] (ys.take (j + 1))
          rw [take_snoc hyj, mkQ_snoc, eps]
          rfl
        · rw [List.length_append, List.length_singleton]
          omega
        · intro h as hm
          rcases List.mem_append.mp hm with hm | hm
          · have := b2 h as hm
            omega
          · cases List.mem_singleton.mp hm
            exact Nat.zero_le _
        · intro b o e
          rw [upd_ne (ne_of_none e hPl)]
          exact s57 _ _ (z5 _ _ (sG4 _ _ e))
      · refine ⟨_, rfl, rfl, _, rfl, ite_d (fun e => absurd e (by decide +kernel)) (fun _ => ?_)⟩
        refine ⟨_, rfl, rfl, _, rfl, ite_d (fun e => absurd e (by decide +kernel)) (fun _ => ?_)⟩
        obtain ⟨j, rfl⟩ : ∃ j, i = j + 1 := ⟨i - 1, by omega⟩
        obtain ⟨rfl, eps⟩ := i1 (by omega)
        have hyj := zi j rfl
        have lxs : xs.length ≤ 200 := by
          have := readO_len hd
          omega
        have s03 := (zT.trans zW).trans zR
        rcases hPA with ⟨e, _⟩ | ⟨xs0, t0, c, hv, ys', ps0, hh, as, rfl, p1, p2, p3, p4, p5, p6, pn, p7, p8, p9⟩
        · exact absurd e hne
        have hO3 : Occ (fun x => C x ∨ x = Pl ∨ x = c) G3 := by
          rintro x (hx | rfl | rfl)
          · exact (hO.same (sG.trans s03)) x hx
          · exact ⟨_, s03 _ _ p1⟩
          · exact ⟨_, s03 _ _ p3⟩
        have hDx := hD _ hO3
        have hO4 := hO3.same s4
        match xs, hDx with
        | x0 :: xt, .cons hx0 hxt =>
        refine ⟨_, rfl, _, rfl, Pl, _, -1, .ref t0, rfl, rfl, .of (sGG _ _ p1), atI_last _ _, t0, _, _, .ref c, rfl, rfl, .of (sGG _ _ p2), atI_nat (j := 1) rfl, .inl ⟨rfl, _, .of (sGG _ _ p3)⟩, ?_⟩
        refine ⟨_, rfl, r2, _, _, _, rfl, rfl, .of hr2, atI_nat (j := 0) rfl, _, rfl, _, rfl, r2, _, rfl, .of hr2, fun q5 h5 => ?_⟩
        have z5 := same_upd (o := .lst (cutV (x0 :: xt) (some 1) none)) h5
        have e5 : upd G4 q5 (.lst (cutV (x0 :: xt) (some 1) none)) q5 = some (.lst xt) := by rw [cut_tail]; exact upd_same
        generalize upd G4 q5 (.lst (cutV (x0 :: xt) (some 1) none)) = G5 at z5 e5 ⊢
        refine ⟨q5, xt, rfl, .inl ⟨.of e5, fun tt htt => ⟨by show 2 ≤ sizeLine; decide, fun ta hta => ?_⟩⟩⟩
        have n1 := (hO4.same z5).new htt
        have z6 := same_upd (o := .tup xt) htt
        have e6 : upd G5 tt (.tup xt) tt = some (.tup xt) := upd_same
        generalize upd G5 tt (.tup xt) = G6 at z6 e6 hta ⊢
        have n2 := ((hO4.same z5).same z6).new hta
        have z7 := same_upd (o := .tup [x0, .ref tt]) hta
        have e7 : upd G6 ta (.tup [x0, .ref tt]) ta = some (.tup [x0, .ref tt]) := upd_same
        generalize upd G6 ta (.tup [x0, .ref tt]) = G7 at z7 e7 ⊢
        have s47 := (z5.trans z6).trans z7
        have sG7 := sGG.trans s47
        have d2 : DA (fun x => C x ∨ x = Pl ∨ x = c) G7 2 (.ref tt) (.tuple t) := .tup n1 (z7 _ _ e6) (by rw [List.length_cons] at lxs; omega) (paired_imp (fun _ _ h => h.same s47) hxt)
        have d3 : DA (fun x => C x ∨ x = Pl ∨ x = c) G7 3 (.ref ta) (.tuple [n, .tuple t]) := .tup n2 e7 (by show 2 ≤ 5000; decide) (.cons ((hx0.same s47).up (by decide)) (.cons d2 .nil))
        have kp : ∀ b o', ¬ (C b ∨ b = Pl ∨ b = c) → G7 b = some o' → upd G7 c (.lst (ys' ++ [.ref ta])) b = some o' := fun b o' nb e => by
          rw [upd_ne fun e => nb (.inr (.inr e))]
          exact e
        have l9 := Paired.length p9
        have las := b2 hh as (by simp)
        refine ⟨c, ys', .ref ta, rfl, rfl, sG7 _ _ p3, ?_, ?_⟩
        · have := (List.getElem?_eq_some_iff.mp hln).1
          exact Nat.lt_of_le_of_lt (by omega : _ ≤ 3000) (by decide)
        refine ⟨ps0 ++ [.tuple [hh, .list (as ++ [.tuple [n, .tuple t]])]], .int wi, _, _, _, _, _, rfl, .inr ⟨xs0, t0, c, hv, ys' ++ [.ref ta], ps0, hh, _, rfl, ?_, ?_, upd_same, p4, p5, p6, pn, ?_, ?_, ?_⟩, (fun h => absurd h (by omega)), (fun _ => ⟨rfl, ?_⟩), ?_, ?_, ?_⟩
        · rw [upd_ne p4.symm]
          exact sG7 _ _ p1
        · rw [upd_ne (fun e => by rw [e, p3] at p2; cases p2)]
          exact sG7 _ _ p2
        · exact paired_imp (fun _ _ h => (DA.same h sG7).keep kp) p7
        · exact (p8.same sG7).keep kp
        · exact paired_snoc (paired_imp (fun _ _ h => (DA.same h sG7).keep kp) p9) (d3.keep kp)
        · show _ = mkQ [] (ys.take (j + 1))
          have eps : ps0 ++ [.tuple [hh, .list as]] = mkQ [] (ys.take j) := eps
          rw [take_snoc hyj, mkQ_snoc, ← eps]
          exact (addAt_last _ _ _ _).symm
        · rw [List.length_append, List.length_singleton] at b1 ⊢
          omega
        · intro h2 as2 hm
          rcases List.mem_append.mp hm with hm | hm
          · have := b2 h2 as2 (List.mem_append_left _ hm)
            omega
          · cases List.mem_singleton.mp hm
            rw [List.length_append, List.length_singleton]
            omega
        · intro b o e
          rw [upd_ne (ne_of_none e pn)]
          exact sG7 _ _ (sG _ _ e)
    · obtain ⟨ps, wv, y4, y5, y6, y7, y8, rfl, hPA, i0, i1, b1, b2, sG⟩ := hp'
      rw [List.length_map] at i0 i1 b1 b2
      rw [List.length_cons] at lp
      obtain ⟨rfl, eps⟩ := i1 (by omega)
      have eps : ps = mkQ [] ys := by rw [eps, List.take_of_length_le (by omega)]
      subst eps
      refine ⟨_, rfl, rfl, _, rfl, ite_d (fun e => nomatch e) (fun _ => ?_)⟩
      have hl : DA C G 6 (.ref Pl) (.list (mkQ [] ys)) := hPA.done nPl (by omega) (fun h as hm => by have := b2 h as hm; omega)
      refine ⟨_, rfl, _, rfl, _, rfl, fun y dy fy fdy ndy => ?_⟩
      have z : Same G (upd (upd G dy (.own y)) y (.ins (a 57) dy [])) := (same_upd fdy).trans (same_upd (by rw [upd_ne ndy.symm]; exact fy))
      have hy : upd (upd G dy (.own y)) y (.ins (a 57) dy []) y = some (.ins (a 57) dy []) := upd_same
      generalize upd (upd G dy (.own y)) y (.ins (a 57) dy []) = G1 at z hy ⊢
      have s2 := sG.trans z
      have hyn : H y = none := by
        cases eH : H y with
        | none => rfl
        | some o => rw [sG _ _ eH] at fy; cases fy
      refine ⟨C, 6, y, dy, sp, ts, ks, ss, m, ms, .int wi, .ref Pl, .int wi, .list (mkQ [] ys), rfl, hy, hO.same s2, by decide, hS.same s2, Sc.da (.int wi), hl.same z, fun ds' hn e' l G2 hq hl2 o => ⟨rfl, ?_⟩, fun s i he G2 s3 => ?_⟩
      · cases e'
        exact q0 hn y dy l G2 hyn hq hl2 fun b o' e => o b o' (ne_of_none (sG _ _ e) fy) (s2 _ _ e)
      · exact q1 s i he G2 (s2.trans s3)
end
/-! ### lines written and read back, as data -/
theorem split_joinS {ws : List Str} (hne : ws ≠ []) (h : ∀ w ∈ ws, SgOk w) : splitW (joinS ws) = ws := by
  unfold splitW joinS
  rw [← TL.join_eq]
  exact TL.split_join (s := 32) (S := []) (by decide +kernel) (by decide +kernel) hne fun p hp c => (((h p hp).2 32 c).2 rfl)
theorem rd1_terms : ∀ {hs : List PyData}, (∀ t ∈ hs, termD t = true) → rd1 (List.replicate hs.length termO) (hs.map termW) = some hs
  | [], _ => rfl
  | t :: hs, h => by
    show (match termO (termW t) with | none => none | some d => (rd1 (List.replicate hs.length termO) (hs.map termW)).map (d :: ·)) = some (t :: hs)
    rw [term_back (h t (by simp)), rd1_terms fun x hx => h x (by simp [hx])]
    rfl
theorem read_p {hs : List PyData} (h : ∀ t ∈ hs, termD t = true) : readO [] (some termO) (hs.map termW) = some hs := by
  show (if (hs.map termW).length < 0 then none else rd1 ([] ++ List.replicate ((hs.map termW).length - 0) termO) (hs.map termW)) = some hs
  rw [if_neg (Nat.not_lt_zero _), List.length_map, List.nil_append, Nat.sub_zero]
  exact rd1_terms h
theorem read_a {n : Str} {ts : List PyData} (hn : Wd n) (h : ∀ t ∈ ts, termD t = true) : readO [nameO] (some termO) (n :: ts.map termW) = some (.str n :: ts) := by
  show (if (n :: ts.map termW).length < 1 then none else rd1 (nameO :: List.replicate ((n :: ts.map termW).length - 1) termO) (n :: ts.map termW)) = some (.str n :: ts)
  rw [List.length_cons, List.length_map, if_neg (by omega), Nat.add_sub_cancel]
  show (match nameO n with | none => none | some d => (rd1 (List.replicate ts.length termO) (ts.map termW)).map (d :: ·)) = some (.str n :: ts)
  rw [rd1_terms h]
  unfold nameO
  rw [if_pos (wd_b hn)]
  rfl
theorem read_q {w : Int} (h0 : 0 ≤ w) (h1 : w < 10 ^ 30) : readO [numD] none [nT w] = some [.int w] := by
  show (match numD (nT w) with | none => none | some d => (some [] : Option (List PyData)).map (d :: ·)) = some [.int w]
  obtain ⟨n, rfl⟩ : ∃ n : Nat, w = n := ⟨w.toNat, by omega⟩
  unfold numD
  rw [num_nT (by omega)]
  rfl
def aLn (x : PyData) : LnD := .a (atName x) (atTerms x) (nameS (atName x) :: (atTerms x).map termW)
def pLn (d : PyData) : List LnD := .p (headOf d) ((headOf d).map termW) :: (atomsOf d).map aLn
theorem aLn_says {x : PyData} (h : AtOk x) : (aLn x).says (atomL x) := by
  obtain ⟨n, ts, rfl, hn, _, ht⟩ := h
  refine ⟨?_, read_a hn ht⟩
  refine split_joinS (by simp) fun w hw => ?_
  rcases List.mem_cons.mp hw with rfl | hw
  · exact lit_sg _ (by simp)
  rcases List.mem_cons.mp hw with rfl | hw
  · exact wd_sg hn
  · obtain ⟨t, h1, rfl⟩ := List.mem_map.mp hw
    exact termW_sg (ht t h1)
theorem pLn_says {d : PyData} (h : PtOk d) : Paired LnD.says (pLn d) (partL d) := by
  obtain ⟨hs, as, rfl, l1, l2, ht, ha⟩ := h
  clear l1 l2
  refine .cons ⟨?_, read_p ht⟩ ?_
  · refine split_joinS (by simp) fun w hw => ?_
    rcases List.mem_cons.mp hw with rfl | hw
    · exact lit_sg _ (by simp)
    · obtain ⟨t, h1, rfl⟩ := List.mem_map.mp hw
      exact termW_sg (ht t h1)
  · show Paired LnD.says (as.map aLn) (as.map atomL)
    induction as with
    | nil => exact .nil
    | cons x as ih => exact .cons (aLn_says (ha x (by simp))) (ih fun y hy => ha y (by simp [hy]))
theorem says_all {w : Int} (h0 : 0 ≤ w) (h1 : w < 10 ^ 30) {ds : List PyData} (h : ∀ x ∈ ds, PtOk x) : Paired LnD.says (.q (.int w) [nT w] :: ds.flatMap pLn) (linesD w ds) := by
  refine .cons ⟨?_, read_q h0 h1⟩ ?_
  · refine split_joinS (by simp) fun x hx => ?_
    rcases List.mem_cons.mp hx with rfl | hx
    · exact lit_sg _ (by simp)
    · rw [List.mem_singleton.mp hx]
      exact nT_sg (by omega)
  · induction ds with
    | nil => exact .nil
    | cons d ds ih =>
      rw [List.flatMap_cons, List.flatMap_cons]
      exact paired_app (pLn_says (h d (by simp))) (ih fun x hx => h x (by simp [hx]))
theorem mkQ_atoms {h : PyData} {ps : List PyData} {r : List LnD} : ∀ {as as0 : List PyData}, (∀ x ∈ as, AtOk x) → mkQ (ps ++ [.tuple [h, .list as0]]) (as.map aLn ++ r) = mkQ (ps ++ [.tuple [h, .list (as0 ++ as)]]) r
  | [], as0, _ => by rw [List.append_nil]; rfl
  | x :: as, as0, ha => by
    obtain ⟨n, ts, rfl, _⟩ := ha x (by simp)
    show mkQ (addAt (.tuple [.str n, .tuple ts]) (ps ++ [.tuple [h, .list as0]])) (as.map aLn ++ r) = _
    rw [addAt_last, mkQ_atoms fun y hy => ha y (by simp [hy]), List.append_assoc]
    rfl
theorem mkQ_back : ∀ {ds ps : List PyData}, (∀ x ∈ ds, PtOk x) → mkQ ps (ds.flatMap pLn) = ps ++ ds
  | [], ps, _ => (List.append_nil ps).symm
  | d :: ds, ps, h => by
    obtain ⟨hs, as, rfl, _, _, _, ha⟩ := h d (by simp)
    rw [List.flatMap_cons]
    show mkQ (ps ++ [.tuple [.tuple hs, .list []]]) (as.map aLn ++ ds.flatMap pLn) = _
    rw [mkQ_atoms ha, mkQ_back fun x hx => h x (by simp [hx]), List.append_assoc]
    rfl
theorem addAt_ne {x : PyData} {ps : List PyData} (h : ps ≠ []) : addAt x ps ≠ [] := by
  unfold addAt
  rw [List.getLast?_eq_some_getLast h]
  simp
theorem mkQ_ne : ∀ {ys : List LnD} {ps : List PyData}, ps ≠ [] → mkQ ps ys ≠ []
  | [], _, h => h
  | .q .. :: ys, _, h => mkQ_ne (ys := ys) h
  | .p .. :: ys, _, _ => mkQ_ne (ys := ys) (by simp)
  | .a .. :: ys, _, h => mkQ_ne (ys := ys) (addAt_ne h)
theorem pLn_first {ds : List PyData} : ∀ i y, (ds.flatMap pLn)[i]? = some y → y.isA = true → mkQ [] ((ds.flatMap pLn).take i) ≠ [] := by
  intro i y h hA
  cases ds with
  | nil => cases h
  | cons d ds =>
    rw [List.flatMap_cons] at h ⊢
    cases i with
    | zero => cases h; cases hA
    | succ i => exact mkQ_ne (ps := [.tuple [.tuple (headOf d), .list []]]) (by simp)
theorem pLn_q {ds : List PyData} : ∀ y ∈ ds.flatMap pLn, y.isQ = false := by
  intro y hy
  obtain ⟨d, _, h⟩ := List.mem_flatMap.mp hy
  rcases List.mem_cons.mp h with rfl | h
  · rfl
  · obtain ⟨x, _, rfl⟩ := List.mem_map.mp h
    rfl
theorem joinS_len : ∀ {ws : List Str}, (∀ x ∈ ws, x.length ≤ 40) → (joinS ws).length ≤ 41 * ws.length
  | [], _ => Nat.zero_le _
  | [x], h => by
    have := h x (by simp)
    show x.length ≤ 41
    omega
  | x :: z :: r, h => by
    have h1 := h x (by simp)
    have h2 := joinS_len (ws := z :: r) fun y hy => h y (by simp [hy])
    show (x ++ " " ++ joinS (z :: r)).length ≤ _
    rw [len_app, len_app, show (" " : Str).length = 1 from rfl, List.length_cons]
    omega
theorem lineok {ws : List Str} (hne : ws ≠ []) (l : ws.length ≤ 20) (h : ∀ x ∈ ws, SgOk x) : LineOk (joinS ws) := by
  have h1 := joinS_len fun x hx => (h x hx).1
  unfold LineOk
  rw [split_joinS hne h]
  exact ⟨by omega, by omega, fun x hx => ⟨by have := (h x hx).1; omega, fun c hc => ((h x hx).2 c hc).1⟩⟩
theorem lineok_all {w : Int} (h0 : 0 ≤ w) (h1 : w < 10 ^ 30) {ds : List PyData} (h : ∀ x ∈ ds, PtOk x) : ∀ l ∈ linesD w ds, LineOk l := by
  intro l hl
  rcases List.mem_cons.mp hl with rfl | hl
  · refine lineok (by simp) (by show 2 ≤ 20; decide) fun x hx => ?_
    rcases List.mem_cons.mp hx with rfl | hx
    · exact lit_sg _ (by simp)
    · rw [List.mem_singleton.mp hx]
      exact nT_sg (by omega)
  · obtain ⟨d, hd, hl⟩ := List.mem_flatMap.mp hl
    obtain ⟨hs, as, rfl, l12, _, ht, ha⟩ := h d hd
    rcases List.mem_cons.mp hl with rfl | hl
    · refine lineok (by simp) (by show (hs.map termW).length + 1 ≤ 20; rw [List.length_map]; omega) fun w hw => ?_
      rcases List.mem_cons.mp hw with rfl | hw
      · exact lit_sg _ (by simp)
      · obtain ⟨t, h1, rfl⟩ := List.mem_map.mp hw
        exact termW_sg (ht t h1)
    · obtain ⟨x, hx, rfl⟩ := List.mem_map.mp hl
      obtain ⟨n, ts, rfl, hn, l4, htt⟩ := ha x hx
      refine lineok (by simp) (by show (ts.map termW).length + 1 + 1 ≤ 20; rw [List.length_map]; omega) fun w hw => ?_
      rcases List.mem_cons.mp hw with rfl | hw
      · exact lit_sg _ (by simp)
      rcases List.mem_cons.mp hw with rfl | hw
      · exact wd_sg hn
      · obtain ⟨t, h1, rfl⟩ := List.mem_map.mp hw
        exact termW_sg (htt t h1)
/-! ### the law's own words and lines -/
section
variable {P : Program} {w : World} {K : PySem.W.Frag} {mg : Str → Option Value} {base : Heap} {a : Nat → Addr} {d : Nat → FuncData}
theorem ok_ltw (T : Txt K mg a d) : FnOk P w K mg base CX0 1 (a 79) (d 79) ["_law_term_here"] spTW := by
  refine T.F79.ok sc__law_term_word (fun vs H Q E h => ?_) (fun cdv A outer s H vs Q E hr h => ?_)
  · obtain ⟨C, n, v, d, rfl, _⟩ := h
    rfl
  · obtain ⟨C, n, v, d, rfl, hv, ht, q⟩ := h
    obtain ⟨nm, hty, k1, _⟩ := hv.ty (K := K)
    refine ⟨_, (pss_one (ps_ret (pe_ifExp (pt_val (pe_callB (id := "isinstance")  call_isi (by rfl) T.z_isinstance (by decide +kernel) (pa_cons (pv 0) (pa_cons (pe_bltn (v := .ty "tuple") (by rfl) T.z_tuple (by decide +kernel) rfl) pa_nil)))) (pe_op op_add_str pe_str (pe_callTy (T := "str")  (call_orC SkE.call_str_str call_str_int) (by rfl) T.z_str (by decide +kernel) (pa_cons (pe_ix ix_tup (pv 0) pe_int (fun _ _ => rfl)) pa_nil))) (pe_callTy (T := "str")  (call_orC SkE.call_str_str call_str_int) (by rfl) T.z_str (by decide +kernel) (pa_cons (pv 0) pa_nil))))), ?_⟩
    refine ⟨_, rfl, _, _, _, _, _, rfl, .ty _, hty, kit_ty k1, _, rfl, ?_⟩
    cases d with
    | tuple ds =>
      obtain ⟨i, rfl⟩ := term_tup ht
      obtain ⟨p, xs, k, rfl, rfl, _, hp, _, pr⟩ := hv.asTup
      match xs, pr with
      | [x], .cons hx .nil =>
      have := hx.asInt
      subst this
      have hb := var_int ht
      refine ifT ⟨_, rfl, _, _, _, _, rfl, rfl, .of hp, atI_nat (j := 0) rfl, .inr ⟨_, rfl, big30 hb, _, _, rfl, rfl, ?_, q⟩⟩
      have := nT_len hb
      show 1 + (nT i).length ≤ sizeLine
      exact Nat.le_of_lt (small1000 (by omega))
    | int i =>
      have := hv.asInt
      subst this
      exact ifF ⟨_, rfl, .inr ⟨_, rfl, big30 (val_int ht), q⟩⟩
    | str s =>
      obtain ⟨rfl, _⟩ := hv.asStr
      exact ifF ⟨_, rfl, .inl ⟨_, rfl, q⟩⟩
    | none => cases ht
    | bool b => cases ht
    | list b => cases ht
    | dict b => cases ht
/-- a line that the law writes: of a pair, its second thing the terms -/
def spLLine : Sp := fun vs H Q _ => ∃ (C : Addr → Prop) (n k : Nat) (p T : Addr) (x : V) (xs : List V) (ts : List PyData) (b : Bool), vs = [.ref p, .bl b] ∧ H p = some (.tup [x, .ref T]) ∧ H T = some (.tup xs) ∧ xs.length ≤ 12 ∧ Paired (DA C H k) xs ts ∧ (∀ t ∈ ts, termD t = true) ∧
  (b = true → ∀ H', Same H H' → Q (.str (joinS ("part" :: ts.map termW))) H') ∧ (b = false → ∃ s : Str, x = .str s ∧ SgOk s ∧ ∀ H', Same H H' → Q (.str (joinS ("atom" :: s :: ts.map termW))) H')
theorem ok_lline (T : Txt K mg a d) : FnOk P w K mg base CX0 2 (a 80) (d 80) ["_law_pair", "_law_is_head"] spLLine := by
  have G79 : FnOk P w K mg base CX0 1 (a 79) (d 79) ["_law_term_here"] spTW := ok_ltw T
  refine T.F80.ok sc__law_line (fun vs H Q E h => ?_) (fun cdv A outer s H vs Q E hr h => ?_)
  · obtain ⟨C, n, k, p, T, x, xs, ts, b, rfl, _⟩ := h
    rfl
  · obtain ⟨C, n, k, p, T', x, xs, ts, b, rfl, hp, hT, l12, pr, ht, qt, qf⟩ := h
    refine ⟨_, (pss_cons (ps_setLc (i := 2) (own := [("_law_term_here", 3)]) rfl sc__law_line.nd rfl rfl (sw_true rfl rfl rfl (by decide +kernel)) (pi_tup (pe_ix ix_tup (pv 0) pe_int (fun _ _ => rfl))) (blkOk_by (N := ["_law_pair", "_law_is_head", "_law_words", "_law_term_here"]) (sc := defScope s__law_line) (by decide +kernel)) (fun _ _ _ _ _ => pg_name (i := 3) sc__law_line.nd rfl (.inl rfl)) (fun _ _ _ _ _ => pts_nil) (fun _ _ _ _ _ => (pe_call G79 (hr.mono (by decide)) (by rfl) T.g79 T.F79.kp T.b79 .nil pass0 (pa_cons (pv 3) pa_nil))))
  (pss_one (ps_ret (pe_ifExp (pt_val (pv 1)) (pe_join pe_str (pe_op op_cat (pe_lst (pa_cons pe_str pa_nil)) (pv 2))) (pe_join pe_str (pe_op op_cat (pe_lst (pa_cons pe_str (pa_cons (pe_ix ix_tup (pv 0) pe_int (fun _ _ => rfl)) pa_nil))) (pv 2))))))), ?_⟩
    have hl := Paired.length pr
    refine ⟨_, rfl, p, _, _, _, rfl, rfl, .of hp, atI_nat (j := 1) rfl, ?_⟩
    refine ⟨T', rfl, ⟨_, .of hT⟩, fun D hD => ?_⟩
    refine lc_tup (K := K) (a := T') (xs := xs) (fun i H' => H' D = some (.lst (((ts.take i).map termW).map V.str)) ∧ Same H H') ⟨upd_same, same_upd hD⟩ (fun i H' _ hp' => .of (hp'.2 _ _ hT)) (fun i y H' hy hp' => ?_) (fun H' hp' => ?_)
    · obtain ⟨e, he, hye⟩ := paired_at pr hy
      have li : i < xs.length := (List.getElem?_eq_some_iff.mp hy).1
      refine ⟨rfl, _, rfl, _, _, y, e, rfl, hye.same hp'.2, ht e (List.mem_of_getElem? he), _, hp'.1, ?_, ?_, fun b o eb => ?_⟩
      · rw [List.length_map, List.length_map, List.length_take]
        exact Nat.lt_of_le_of_lt (by omega : _ ≤ 5000) (by decide)
      · rw [map_take he, List.map_append]
        exact upd_same
      · rw [upd_ne (ne_of_none eb hD)]
        exact hp'.2 b o eb
    obtain ⟨h1, s1⟩ := hp'
    rw [hl, List.take_length] at h1
    have sgt : ∀ y ∈ ts.map termW, SgOk y := fun y hy => by
      obtain ⟨t, h2, rfl⟩ := List.mem_map.mp hy
      exact termW_sg (ht t h2)
    have sumle : ∀ {ws : List Str}, (∀ y ∈ ws, SgOk y) → ws.length ≤ 14 → (ws.map (·.length)).sum + ws.length * (" " : Str).length ≤ 16777216 := fun {ws} hw l => by
      have := join_len (ws := ws) fun y hy => by have := (hw y hy).1; omega
      show _ + ws.length * 1 ≤ 16777216
      omega
    cases b with
    | true =>
      refine ⟨_, rfl, _, rfl, ?_⟩
      refine ifT ?_
      refine ⟨⟨_, rfl⟩, by show 1 ≤ sizeLine; decide, fun p1 hp1 => ⟨_, rfl, p1, D, _, _, rfl, rfl, upd_same, same_upd hp1 _ _ h1, ?_, fun p2 hp2 => ?_⟩⟩
      · rw [List.length_map, List.length_map, List.length_singleton]
        exact Nat.le_of_lt (small1000 (by omega))
      refine ⟨_, p2, "part" :: ts.map termW, rfl, rfl, .inl (.of upd_same), sumle ?_ (by rw [List.length_cons, List.length_map]; omega), ?_⟩
      · intro y hy
        rcases List.mem_cons.mp hy with rfl | hy
        · exact lit_sg _ (by simp)
        · exact sgt y hy
      · rw [TL.join_eq]
        exact qt rfl _ ((s1.trans (same_upd hp1)).trans (same_upd hp2))
    | false =>
      obtain ⟨s, rfl, hs, qf⟩ := qf rfl
      have hp2 := s1 _ _ hp
      refine ⟨_, rfl, _, rfl, ?_⟩
      refine ifF ?_
      refine ⟨⟨_, rfl⟩, _, rfl, p, _, _, _, rfl, rfl, .of hp2, atI_nat (j := 0) rfl, by show 2 ≤ sizeLine; decide, fun p1 hp1 => ⟨_, rfl, p1, D, _, _, rfl, rfl, upd_same, same_upd hp1 _ _ h1, ?_, fun p2 hp2 => ?_⟩⟩
      · rw [List.length_map, List.length_map]
        exact Nat.le_of_lt (small1000 (by show 2 + ts.length ≤ 1000; omega))
      refine ⟨_, p2, "atom" :: s :: ts.map termW, rfl, rfl, .inl (.of upd_same), sumle ?_ (by rw [List.length_cons, List.length_cons, List.length_map]; omega), ?_⟩
      · intro y hy
        rcases List.mem_cons.mp hy with rfl | hy
        · exact lit_sg _ (by simp)
        rcases List.mem_cons.mp hy with rfl | hy
        · exact hs
        · exact sgt y hy
      · rw [TL.join_eq]
        exact qf _ ((s1.trans (same_upd hp1)).trans (same_upd hp2))
end
section
variable {P : Program} {w : World} {K : PySem.W.Frag} {mg : Str → Option Value} {base : Heap} {a : Nat → Addr} {d : Nat → FuncData}
/-- the lines that the law writes -/
def spWrit : Sp := fun vs H Q _ => ∃ (C : Addr → Prop) (n : Nat) (xp : V) (wi : Int) (ds : List PyData), vs = [.int wi, xp] ∧ Occ C H ∧ 0 ≤ wi ∧ wi < 10 ^ 30 ∧ DA C H n xp (.list ds) ∧ ds.length ≤ 40 ∧ (∀ x ∈ ds, PtOk x) ∧ ∀ p H', H p = none → H' p = some (.lst ((linesD wi ds).map V.str)) → Same H H' → Q (.ref p) H'
theorem q_line (x : Str) : ("question " : Str) ++ x = joinS ["question", x] := by
  show ("question " : Str) ++ x = "question" ++ " " ++ x
  rw [show ("question" : Str) ++ " " = "question " by decide +kernel]
theorem ok_writ (T : Txt K mg a d) : FnOk P w K mg base CX0 3 (a 81) (d 81) ["_law_width", "_law_parts"] spWrit := by
  have G80 : FnOk P w K mg base CX0 2 (a 80) (d 80) ["_law_pair", "_law_is_head"] spLLine := ok_lline T
  refine T.F81.ok sc__law_written (fun vs H Q E h => ?_) (fun cdv A outer s H vs Q E hr h => ?_)
  · obtain ⟨C, n, xp, wi, ds, rfl, _⟩ := h
    rfl
  · obtain ⟨C, n, xp, wi, ds, rfl, hO, w0, w1, hv, l40, hok, q⟩ := h
    refine ⟨_, (pss_cons (ps_set (i := 2) sc__law_written.nd rfl (.inl rfl) (pe_lst (pa_cons (pe_op op_add_str pe_str (pe_callTy (T := "str")  call_str_int (by rfl) T.z_str (by decide +kernel) (pa_cons (pv 0) pa_nil))) pa_nil)))
  (pss_cons (ps_for PassesOwn.never rfl (pi_list (pv 1)) (pg_tup rfl (pgs_cons (pg_name (i := 3) sc__law_written.nd rfl (.inl rfl)) (pgs_cons (pg_name (i := 4) sc__law_written.nd rfl (.inl rfl)) pgs_nil)))
    (pss_cons (ps_expr (pe_bm PySem.F.plainAttrs_list PySem.F.slot_list_append PySem.F.type_list_append mt_append (pv 2) (pa_cons (pe_call G80 (hr.mono (by decide)) (by rfl) T.g80 T.F80.kp T.b80 .nil pass0 (pa_cons (pe_tup (pa_cons pe_str (pa_cons (pv 3) pa_nil))) (pa_cons pe_bl pa_nil))) pa_nil)))
      (pss_one (ps_expr (pe_bm PySem.F.plainAttrs_list PySem.F.slot_list_extend PySem.F.type_list_extend mt_extend (pv 2) (pa_cons (pe_lc (own := [("_law_atom", 5)]) rfl sc__law_written.nd (pi_list (pv 4)) (blkOk_by (N := ["_law_width", "_law_parts", "_law_lines", "_law_head", "_law_atoms", "_law_atom"]) (sc := defScope s__law_written) (by decide +kernel)) (fun _ _ _ _ _ => pg_name (i := 5) sc__law_written.nd rfl (.inl rfl)) (fun _ _ _ _ _ => pts_nil) (fun _ _ _ _ _ => (pe_call G80 (hr.mono (by decide)) (by rfl) T.g80 T.F80.kp T.b80 .nil pass0 (pa_cons (pv 5) (pa_cons pe_bl pa_nil))))) pa_nil))))))
  (pss_one (ps_ret (pv 2))))), ?_⟩
    obtain ⟨l, xs, k, ek, rfl, nCl, hl, l5, pr⟩ := hv.asLst
    have hlen := Paired.length pr
    have lw := nT_len (i := wi) (by omega)
    refine ⟨_, rfl, wi, rfl, big30 (by omega), _, _, rfl, rfl, ?_, ?_⟩
    · show 9 + (nT wi).length ≤ sizeLine
      exact Nat.le_of_lt (small1000 (by omega))
    refine ⟨by show 1 ≤ sizeLine; decide, fun S hS => ?_⟩
    rw [show Str.ofString (toString wi) = nT wi from rfl]
    have s1 := same_upd (o := .lst [.str (("question " : Str) ++ nT wi)]) hS
    have e1 : upd H S (.lst [.str (("question " : Str) ++ nT wi)]) S = some (.lst ((linesD wi (ds.take 0)).map V.str)) := by
      rw [q_line]
      exact upd_same
    have nS := hO.new hS
    have pr1 := paired_imp (fun _ _ h => (DA.fresh hS h).same s1) pr
    have hl1 := s1 _ _ hl
    generalize upd H S (.lst [.str (("question " : Str) ++ nT wi)]) = H1 at s1 e1 pr1 hl1 ⊢
    have nlS : l ≠ S := ne_of_none hl hS
    have hO1 : Occ (fun x => C x ∨ x = S) H1 := by
      rintro x (hx | rfl)
      · exact (hO.same s1) x hx
      · exact ⟨_, e1⟩
    refine ⟨_, rfl, l, rfl, ⟨_, .of hl1⟩, for_list (K := K) (a := l) (xs := xs) (fun i σ H' => ∃ y3 y4 : Option V, σ = [some (.int wi), some (.ref l), some (.ref S), y3, y4, none] ∧ H' S = some (.lst ((linesD wi (ds.take i)).map V.str)) ∧ (∀ b o, b ≠ S → H1 b = some o → H' b = some o))
      ⟨_, _, rfl, e1, fun _ _ _ e => e⟩ (fun i σ H' _ hp => ?_) (fun i y σ H' hy hp => ?_) (fun σ H' hp => ?_)⟩
    · obtain ⟨_, _, rfl, _, o⟩ := hp
      exact .of (o _ _ nlS hl1)
    · obtain ⟨y3, y4, rfl, hSv, o⟩ := hp
      obtain ⟨e, he, hye⟩ := paired_at pr1 hy
      have li : i < xs.length := (List.getElem?_eq_some_iff.mp hy).1
      obtain ⟨hs, as, rfl, l12, l20, ht, ha⟩ := hok e (List.mem_of_getElem? he)
      have kp : ∀ x o', ¬ (C x ∨ x = S) → H1 x = some o' → H' x = some o' := fun x o' hn e => o x o' (fun e' => hn (.inr e')) e
      obtain ⟨b, us, k1, ek1, rfl, nb, hb, _, pb⟩ := (hye.keep kp).asTup
      match us, pb with
      | [u, z], .cons hu (.cons hz .nil) =>
      obtain ⟨T', us, k2, ek2, rfl, nT', hT, _, pT⟩ := hu.asTup
      obtain ⟨c, zs, k3, ek3, rfl, nc, hc, _, pc⟩ := hz.asLst
      have lT := Paired.length pT
      have lz := Paired.length pc
      have ll : (linesD wi (ds.take i)).length ≤ 1 + 21 * 40 := by
        have h3 := lines_len (w := wi) (ds := ds.take i) fun x hx => hok x (List.mem_of_mem_take hx)
        rw [List.length_take] at h3
        omega
      refine ⟨b, _, rfl, .of hb, rfl, _, _, rfl, _, _, rfl, rfl, ?_⟩
      refine ⟨_, rfl, .inl ⟨rfl, _, .of hSv⟩, _, rfl, by show 2 ≤ sizeLine; decide, fun t htn => ?_⟩
      have zt := same_upd (o := .tup [.str "", .ref T']) htn
      refine ⟨_, 0, _, t, T', .str "", us, hs, true, rfl, upd_same, zt _ _ hT, by omega, paired_imp (fun _ _ h => DA.same h zt) pT, ht, fun _ G sG => ?_, fun e => nomatch e⟩
      have s2 := zt.trans sG
      refine ⟨S, _, _, rfl, rfl, s2 _ _ hSv, by rw [List.length_map]; exact small1000 (by omega), ?_⟩
      have e3 : upd G S (.lst ((linesD wi (ds.take i)).map V.str ++ [.str (joinS ("part" :: hs.map termW))])) S = some (.lst ((linesD wi (ds.take i) ++ [joinS ("part" :: hs.map termW)]).map V.str)) := by
        rw [List.map_append]
        exact upd_same
      have o3 : ∀ b o', b ≠ S → H' b = some o' → upd G S (.lst ((linesD wi (ds.take i)).map V.str ++ [.str (joinS ("part" :: hs.map termW))])) b = some o' := fun b o' nb e => by
        rw [upd_ne nb]
        exact s2 _ _ e
      generalize upd G S (.lst ((linesD wi (ds.take i)).map V.str ++ [.str (joinS ("part" :: hs.map termW))])) = G2 at e3 o3 ⊢
      have nSc : c ≠ S := fun e => nc (.inr e)
      have hc2 := o3 _ _ nSc hc
      have kp2 : ∀ x o', ¬ (C x ∨ x = S) → H' x = some o' → G2 x = some o' := fun x o' hn e => o3 x o' (fun e' => hn (.inr e')) e
      have pc := paired_imp (fun _ _ h => DA.keep kp2 h) pc
      refine ⟨_, rfl, .inl ⟨rfl, _, .of e3⟩, _, rfl, c, rfl, ⟨_, .of hc2⟩, fun D hD => ?_⟩
      refine lc_list (K := K) (a := c) (xs := zs) (fun j G' => G' D = some (.lst (((as.take j).map atomL).map V.str)) ∧ Same G2 G') ⟨upd_same, same_upd hD⟩ (fun j G' _ hp6 => .of (hp6.2 _ _ hc2)) (fun j x G' hx hp6 => ?_) (fun G' hp6 => ?_)
      · obtain ⟨e6, he6, hxe⟩ := paired_at pc hx
        have lj6 : j < zs.length := (List.getElem?_eq_some_iff.mp hx).1
        obtain ⟨nm, ts, rfl, hw, t4, htt⟩ := ha e6 (List.mem_of_getElem? he6)
        obtain ⟨b2, us2, k5, ek5, rfl, _, hb2, _, pb2⟩ := (hxe.same hp6.2).asTup
        match us2, pb2 with
        | [u2, z2], .cons hu2 (.cons hz2 .nil) =>
        obtain ⟨rfl, _⟩ := hu2.asStr
        obtain ⟨T2, ys2, k6, ek6, rfl, _, hT2, _, pT2⟩ := hz2.asTup
        have lT2 := Paired.length pT2
        refine ⟨rfl, _, rfl, _, 0, _, b2, T2, .str nm, ys2, ts, false, rfl, hb2, hT2, by omega, pT2, htt, (fun e => nomatch e), fun _ => ⟨nm, rfl, wd_sg hw, fun G3 s3 => ⟨_, s3 _ _ hp6.1, ?_, ?_, fun b5 o6 eb => ?_⟩⟩⟩
        · rw [List.length_map, List.length_map, List.length_take]
          exact Nat.lt_of_le_of_lt (by omega : _ ≤ 5000) (by decide)
        · rw [map_take he6, List.map_append]
          exact upd_same
        · rw [upd_ne (ne_of_none eb hD)]
          exact s3 _ _ (hp6.2 b5 o6 eb)
      obtain ⟨g1, sG6⟩ := hp6
      rw [lz, List.take_length] at g1
      refine ⟨S, D, _, _, rfl, rfl, sG6 _ _ e3, g1, ?_, ?_⟩
      · rw [List.length_map, List.length_map, List.length_map, List.length_append, List.length_singleton]
        exact Nat.le_of_lt (small1000 (by omega))
      refine ⟨_, _, rfl, ?_, fun b5 o5 n5 e5 => by rw [upd_ne n5]; exact sG6 _ _ (o3 b5 o5 n5 (o b5 o5 n5 e5))⟩
      rw [upd_same, take_snoc he]
      unfold linesD
      rw [List.flatMap_append]
      simp [partL, headOf, atomsOf]
    · obtain ⟨y3, y4, rfl, hSv, o⟩ := hp
      rw [hlen, List.take_length] at hSv
      exact ⟨_, rfl, q S H' hS hSv fun b o' e => o b o' (ne_of_none e hS) (s1 _ _ e)⟩
end
section
variable {P : Program} {w : World} {K : PySem.W.Frag} {mg : Str → Option Value} {base : Heap} {a : Nat → Addr} {d : Nat → FuncData}
def spWord2 : Sp := fun vs H Q _ => ∃ (p : Addr), vs = [.ref p] ∧ Cell H p ∧ ∀ (s : Str) (H' : Hp), Wd s → Chs p H H' → Q (.str s) H'
theorem ok_word3 (T : Txt K mg a d) : FnOk P w K mg base CX0 2 (a 75) (d 75) ["_law_state_here"] spWord2 := by
  have G74 : FnOk P w K mg base CX0 1 (a 74) (d 74) ["_law_state_here", "_law_many"] spPick2 := ok_pick2 T
  refine T.F75.ok sc__law_word (fun vs H Q E h => ?_) (fun cdv A outer s H vs Q E hr h => ?_)
  · obtain ⟨p, rfl, _⟩ := h
    rfl
  · obtain ⟨p, rfl, hP, q⟩ := h
    refine ⟨_, (pss_cons (ps_set (i := 1) sc__law_word.nd rfl (.inr rfl) pe_str)
  (pss_cons (ps_set (i := 2) sc__law_word.nd rfl (.inl rfl) (pe_op op_add pe_int (pe_call G74 (hr.mono (by decide)) (by rfl) T.g74 T.F74.kp T.b74 .nil pass0 (pa_cons (pv 0) (pa_cons pe_int pa_nil)))))
  (pss_one (ps_ret (pe_join pe_str (pe_lc (own := [("_law_k", 3)]) rfl sc__law_word.nd (pi_range1 (by rfl) T.z_range (pa_cons (pv 2) pa_nil)) (blkOk_by (N := ["_law_state_here", "_law_letters", "_law_size", "_law_k"]) (sc := defScope s__law_word) (by decide +kernel)) (fun _ _ _ _ _ => pg_name (i := 3) sc__law_word.nd rfl (.inl rfl)) (fun _ _ _ _ _ => pts_nil) (fun _ _ _ _ _ => (pe_ix ix_str (pv 1) (pe_call G74 (hr.mono (by decide)) (by rfl) T.g74 T.F74.kp T.b74 .nil pass0 (pa_cons (pv 0) (pa_cons pe_int pa_nil))) (fun _ _ => rfl))))))))), ?_⟩
    refine ⟨_, rfl, p, 8, rfl, hP, by decide, by decide, fun m H1 m0 m1 C1 => ⟨_, _, rfl, rfl, ⟨_, rfl⟩, _, rfl, _, rfl, by omega, by omega, fun D hD => ?_⟩⟩
    have nD : D ≠ p := C1.1.ne hD
    refine lc_range (lo := 0) (n := (1 + m).toNat) (fun i H' => ∃ cs : List Nat, H' D = some (.lst ((cs.map sgn).map V.str)) ∧ cs.length = i ∧ (∀ c ∈ cs, 97 ≤ c ∧ c ≤ 122) ∧ Chs p H H') ⟨[], upd_same, rfl, (fun c h => by cases h), C1.mut (C1.free hP hD) nD⟩ (fun i H' hi hp => ?_) (fun H' hp => ?_)
    · obtain ⟨cs, c1, c2, c3, C2⟩ := hp
      refine ⟨rfl, ?_⟩
      have hi8 : i < 8 := by omega
      refine ⟨_, rfl, _, rfl, p, 26, rfl, C2.1, by decide, by decide, fun r H'' r0 r1 C3 => ⟨_, r, 97 + r.toNat, rfl, rfl, by decide +kernel, at_g (show r = ((r.toNat : Nat) : Int) by omega) (letter_at r.toNat (by omega)), _, C3.at nD c1, ?_, cs ++ [97 + r.toNat], ?_, ?_, fun c hc => ?_, (C2.trans C3).mut (C1.free hP hD) nD⟩⟩
      · rw [List.length_map, List.length_map, c2]
        exact small1000 (by omega)
      · rw [List.map_append, List.map_append]
        exact upd_same
      · rw [List.length_append, c2]
        rfl
      · rcases List.mem_append.mp hc with h | h
        · exact c3 c h
        · rw [List.mem_singleton.mp h]
          omega
    · obtain ⟨cs, c1, c2, c3, C2⟩ := hp
      have l1 : ((cs.map sgn).map (·.length)).sum = cs.length := by
        rw [List.map_map]
        clear c1 c2 c3
        induction cs with
        | nil => rfl
        | cons c cs ih => rw [List.map_cons, List.sum_cons, ih, List.length_cons]; show 1 + cs.length = _; omega
      refine ⟨_, D, cs.map sgn, rfl, rfl, .inl (.of c1), ?_, q _ H' ?_ C2⟩
      · rw [l1, List.length_map, c2]
        show _ + _ * 0 ≤ 16777216
        omega
      · rw [TL.join_eq, join_sgn]
        exact ⟨by show 1 ≤ (cs.toArray).size; rw [List.size_toArray]; omega, by show (cs.toArray).size ≤ 8; rw [List.size_toArray]; omega, fun c hc => c3 c (by simpa using hc)⟩
theorem term_w {s : Str} (h : Wd s) : termD (.str s) = true := by
  unfold termD
  rw [Bool.or_eq_true]
  exact .inl (wd_b h)
theorem term_i {i : Int} (h : -(10 ^ 30) < i ∧ i < 10 ^ 30) : termD (.int i) = true := by
  unfold termD
  rw [Bool.or_eq_true]
  exact .inl (decide_eq_true (by omega))
theorem term_v {i : Int} (h : 0 ≤ i ∧ i < 10 ^ 30) : termD (.tuple [.int i]) = true := by
  unfold termD
  rw [Bool.or_eq_true]
  exact .inr (decide_eq_true (by omega))
theorem wd_da {C : Addr → Prop} {H : Hp} {n : Nat} {s : Str} (h : Wd s) : DA C H n (.str s) (.str s) := Sc.da (.str s (by have := h.2.1; omega) fun c hc => by have := h.2.2 c hc; omega)
def spTerm3 : Sp := fun vs H Q _ => ∃ (C : Addr → Prop) (p : Addr), vs = [.ref p] ∧ C p ∧ Cell H p ∧ Occ C H ∧ ∀ (v : V) (d : PyData) (H' : Hp), DA C H' 1 v d → termD d = true → Chs p H H' → Q v H'
theorem ok_lterm (T : Txt K mg a d) : FnOk P w K mg base CX0 4 (a 76) (d 76) ["_law_state_here"] spTerm3 := by
  have G74 : FnOk P w K mg base CX0 1 (a 74) (d 74) ["_law_state_here", "_law_many"] spPick2 := ok_pick2 T
  have G75 : FnOk P w K mg base CX0 2 (a 75) (d 75) ["_law_state_here"] spWord2 := ok_word3 T
  refine T.F76.ok sc__law_term (fun vs H Q E h => ?_) (fun cdv A outer s H vs Q E hr h => ?_)
  · obtain ⟨C, p, rfl, _⟩ := h
    rfl
  · obtain ⟨C, p, rfl, hc, hP, hO, q⟩ := h
    refine ⟨_, (pss_cons (ps_set (i := 1) sc__law_term.nd rfl (.inl rfl) (pe_call G74 (hr.mono (by decide)) (by rfl) T.g74 T.F74.kp T.b74 .nil pass0 (pa_cons (pv 0) (pa_cons pe_int pa_nil))))
  (pss_cons (ps_if (pt_cmpR op_eq (pv 1) pe_int (nomark _))
    (pss_one (ps_ret (pe_call G75 (hr.mono (by decide)) (by rfl) T.g75 T.F75.kp T.b75 .nil pass0 (pa_cons (pv 0) pa_nil))))
    pss_nil)
  (pss_cons (ps_if (pt_cmpR op_eq (pv 1) pe_int (nomark _))
    (pss_one (ps_ret (pe_op op_sub (pe_call G74 (hr.mono (by decide)) (by rfl) T.g74 T.F74.kp T.b74 .nil pass0 (pa_cons (pv 0) (pa_cons pe_int pa_nil))) pe_int)))
    pss_nil)
  (pss_cons (ps_if (pt_cmpR op_eq (pv 1) pe_int (nomark _))
    (pss_one (ps_ret (pe_op op_sub (pe_call G74 (hr.mono (by decide)) (by rfl) T.g74 T.F74.kp T.b74 .nil pass0 (pa_cons (pv 0) (pa_cons (pe_op op_mul pe_int (pe_op op_pow pe_int pe_int)) pa_nil))) (pe_op op_pow pe_int pe_int))))
    pss_nil)
  (pss_cons (ps_set (i := 2) sc__law_term.nd rfl (.inl rfl) (pe_op op_sub (pe_op op_sub (pe_op op_pow pe_int pe_int) pe_int) (pe_call G74 (hr.mono (by decide)) (by rfl) T.g74 T.F74.kp T.b74 .nil pass0 (pa_cons (pv 0) (pa_cons (pe_op op_pow pe_int pe_int) pa_nil)))))
  (pss_one (ps_ret (pe_ix ix_list (pe_lst (pa_cons (pv 2) (pa_cons (pe_un un_neg (pv 2)) (pa_cons (pe_tup (pa_cons (pv 2) pa_nil)) (pa_cons (pe_tup (pa_cons pe_int pa_nil)) (pa_cons (pe_tup (pa_cons (pe_call G74 (hr.mono (by decide)) (by rfl) T.g74 T.F74.kp T.b74 .nil pass0 (pa_cons (pv 0) (pa_cons pe_int pa_nil))) pa_nil)) pa_nil)))))) (pe_op op_sub (pv 1) pe_int) (fun _ _ => rfl))))))))), ?_⟩
    refine ⟨_, rfl, p, 8, rfl, hP, by decide, by decide, fun r H1 r0 r1 C1 => ?_⟩
    refine ⟨_, rfl, rfl, _, rfl, ite_eqI (fun _ => ?_) (fun n0 => ?_)⟩
    · exact ⟨_, rfl, p, rfl, C1.1, fun s H2 hs C2 => q (.str s) (.str s) H2 (wd_da hs) (term_w hs) (C1.trans C2)⟩
    refine ⟨_, rfl, rfl, _, rfl, ite_eqI (fun _ => ?_) (fun n1 => ?_)⟩
    · exact ⟨_, rfl, p, 5, rfl, C1.1, by decide, by decide, fun m H2 m0 m1 C2 => ⟨_, _, rfl, rfl, q (.int (m - 2)) (.int (m - 2)) H2 (Sc.da (.int _)) (term_i (by omega)) (C1.trans C2)⟩⟩
    refine ⟨_, rfl, rfl, _, rfl, ite_eqI (fun _ => ?_) (fun n2 => ?_)⟩
    · refine ⟨_, rfl, _, _, rfl, rfl, ⟨by decide, by decide, by decide⟩, _, _, rfl, rfl, .inl ⟨by decide, by decide⟩, p, 2 * 10 ^ 17, rfl, C1.1, by decide, by decide, fun m H2 m0 m1 C2 => ⟨_, _, rfl, rfl, ⟨by decide, by decide, by decide⟩, _, _, rfl, rfl, q (.int (m - 10 ^ 17)) (.int (m - 10 ^ 17)) H2 (Sc.da (.int _)) (term_i (by omega)) (C1.trans C2)⟩⟩
    refine ⟨_, _, rfl, rfl, ⟨by decide, by decide, by decide⟩, _, _, rfl, rfl, ?_⟩
    refine ⟨_, rfl, _, _, rfl, rfl, ⟨by decide, by decide, by decide⟩, p, 10 ^ 17, rfl, C1.1, by decide, by decide, fun m H2 m0 m1 C2 => ⟨_, _, rfl, rfl, ?_⟩⟩
    have C2 := C1.trans C2
    have nb : ∃ n : Int, (10 : Int) ^ (30 : Int).toNat - 1 - m = n ∧ 0 ≤ n ∧ n < 10 ^ 30 := ⟨_, rfl, by show 0 ≤ (10 : Int) ^ 30 - 1 - m; omega, by show (10 : Int) ^ 30 - 1 - m < 10 ^ 30; omega⟩
    obtain ⟨n, en, n0, n1'⟩ := nb
    show gName 2 (.int ((10 : Int) ^ (30 : Int).toNat - 1 - m)) _ _ _
    rw [en]
    have hO2 := hO.chs C2
    refine ⟨_, rfl, _, rfl, _, rfl, _, rfl, by show 1 ≤ sizeLine; decide, fun t1 h1 => ?_⟩
    have np1 := C2.1.ne h1
    have nc1 := hO2.new h1
    have C3 := C2.sm (same_upd (o := .tup [.int n]) h1)
    have e1 : upd H2 t1 (.tup [.int n]) t1 = some (.tup [.int n]) := upd_same
    generalize upd H2 t1 (.tup [.int n]) = G1 at C3 e1 ⊢
    refine ⟨by show 1 ≤ sizeLine; decide, fun t2 h2 => ?_⟩
    have np2 := C3.1.ne h2
    have nc2 := (hO.chs C3).new h2
    have z2 := same_upd (o := .tup [.int 0]) h2
    have C4 := C3.sm z2
    have e1 := z2 _ _ e1
    have e2 : upd G1 t2 (.tup [.int 0]) t2 = some (.tup [.int 0]) := upd_same
    generalize upd G1 t2 (.tup [.int 0]) = G2 at C4 e1 e2 ⊢
    refine ⟨_, rfl, p, 200, rfl, C4.1, by decide, by decide, fun m2 H5 m20 m21 C5' => ?_⟩
    have C5 := C4.trans C5'
    have e1 := C5'.at np1 e1
    have e2 := C5'.at np2 e2
    refine ⟨by show 1 ≤ sizeLine; decide, fun t3 h3 => ?_⟩
    have nc3 := (hO.chs C5).new h3
    have z3 := same_upd (o := .tup [.int m2]) h3
    have C6 := C5.sm z3
    have e1 := z3 _ _ e1
    have e2 := z3 _ _ e2
    have e3 : upd H5 t3 (.tup [.int m2]) t3 = some (.tup [.int m2]) := upd_same
    generalize upd H5 t3 (.tup [.int m2]) = G6 at C6 e1 e2 e3 ⊢
    refine ⟨by show 5 ≤ sizeLine; decide, fun L hL => ?_⟩
    have z4 := same_upd (o := .lst [.int n, .int (-n), .ref t1, .ref t2, .ref t3]) hL
    have C7 := C6.sm z4
    have e1 := z4 _ _ e1
    have e2 := z4 _ _ e2
    have e3 := z4 _ _ e3
    have eL : upd G6 L (.lst [.int n, .int (-n), .ref t1, .ref t2, .ref t3]) L = some (.lst [.int n, .int (-n), .ref t1, .ref t2, .ref t3]) := upd_same
    generalize upd G6 L (.lst [.int n, .int (-n), .ref t1, .ref t2, .ref t3]) = G7 at C7 e1 e2 e3 eL ⊢
    have tup1 : ∀ {t : Addr} {i : Int}, ¬ C t → G7 t = some (.tup [.int i]) → DA C G7 1 (.ref t) (.tuple [.int i]) := fun nc e => .tup nc e (by show 1 ≤ 5000; decide) (.cons (.int _) .nil)
    have r8 : r = 3 ∨ r = 4 ∨ r = 5 ∨ r = 6 ∨ r = 7 := by omega
    have fin : ∃ (v : V) (d : PyData), atI [V.int n, .int (-n), .ref t1, .ref t2, .ref t3] (r - 3) = some v ∧ DA C G7 1 v d ∧ termD d = true := by
      rcases r8 with rfl | rfl | rfl | rfl | rfl
      · exact ⟨_, _, atI_nat (j := 0) rfl, Sc.da (.int n), term_i (by omega)⟩
      · exact ⟨_, _, atI_nat (j := 1) rfl, Sc.da (.int (-n)), term_i (by omega)⟩
      · exact ⟨_, _, atI_nat (j := 2) rfl, tup1 nc1 e1, term_v (by omega)⟩
      · exact ⟨_, _, atI_nat (j := 3) rfl, tup1 nc2 e2, term_v (by omega)⟩
      · exact ⟨_, _, atI_nat (j := 4) rfl, tup1 nc3 e3, term_v (by omega)⟩
    obtain ⟨v, d, hv, hd, ht⟩ := fin
    exact ⟨_, rfl, _, _, rfl, rfl, L, _, _, v, rfl, rfl, .of eL, hv, q v d G7 hd ht C7⟩
end
section
variable {P : Program} {w : World} {K : PySem.W.Frag} {mg : Str → Option Value} {base : Heap} {a : Nat → Addr} {d : Nat → FuncData}
def spTables4 : Sp := fun vs H Q _ => ∃ (p : Addr), vs = [.ref p] ∧ Cell H p ∧ ∀ (t : Addr) (ts : List (Str × Int)) (H' : Hp), H t = none → H' t = some (.dK (tabK ts)) → Tabs ts ts.length 4 → 1 ≤ ts.length → ts.length ≤ 4 → Chs p H H' → Q (.ref t) H'
theorem nodup4 : (["q", "r", "s", "t"] : List Str).Nodup := by decide +kernel
theorem wd45 : ∀ s ∈ (["q", "r", "s", "t", "question", "part", "atom"] : List Str), Wd s := by
  have h : ((["q", "r", "s", "t", "question", "part", "atom"] : List Str).all fun s => decide (1 ≤ s.length) && decide (s.length ≤ 8) && s.cps.toList.all fun c => decide (97 ≤ c) && decide (c ≤ 122)) = true := by decide +kernel
  intro s hs
  have h1 := List.all_eq_true.mp h s hs
  simp only [Bool.and_eq_true, List.all_eq_true, decide_eq_true_eq] at h1
  exact ⟨h1.1.1, h1.1.2, fun c hc => h1.2 c hc⟩
theorem wd4 : ∀ s ∈ (["q", "r", "s", "t"] : List Str), Wd s := fun s hs => wd45 s (List.mem_append_left (["question", "part", "atom"] : List Str) hs)
theorem wd5 : ∀ s ∈ (["question", "part", "atom"] : List Str), Wd s := fun s hs => wd45 s (List.mem_append_right (["q", "r", "s", "t"] : List Str) hs)
theorem ok_ltabs (T : Txt K mg a d) : FnOk P w K mg base CX0 3 (a 77) (d 77) ["_law_state_here"] spTables4 := by
  have G74 : FnOk P w K mg base CX0 1 (a 74) (d 74) ["_law_state_here", "_law_many"] spPick2 := ok_pick2 T
  have G75 : FnOk P w K mg base CX0 2 (a 75) (d 75) ["_law_state_here"] spWord2 := ok_word3 T
  refine T.F77.ok sc__law_tables (fun vs H Q E h => ?_) (fun cdv A outer s H vs Q E hr h => ?_)
  · obtain ⟨p, rfl, _⟩ := h
    rfl
  · obtain ⟨p, rfl, hP, q⟩ := h
    have hu := hu_of hr
    refine ⟨_, (pss_cons (ps_set (i := 1) sc__law_tables.nd rfl (.inr rfl) pe_dnewK)
  (pss_cons (ps_for PassesOwn.never rfl (pi_range1 (by rfl) T.z_range (pa_cons (pe_op op_add pe_int (pe_call G74 (hr.mono (by decide)) (by rfl) T.g74 T.F74.kp T.b74 .nil pass0 (pa_cons (pv 0) (pa_cons pe_int pa_nil)))) pa_nil)) (pg_name (i := 2) sc__law_tables.nd rfl (.inl rfl))
    (pss_cons (ps_set (i := 3) sc__law_tables.nd rfl (.inl rfl) (pe_call G75 (hr.mono (by decide)) (by rfl) T.g75 T.F75.kp T.b75 .nil pass0 (pa_cons (pv 0) pa_nil)))
      (Evl.pss_cut (ps_if (pt_cmpR op_eq (pe_call G74 (hr.mono (by decide)) (by rfl) T.g74 T.F74.kp T.b74 .nil pass0 (pa_cons (pv 0) (pa_cons pe_int pa_nil))) pe_int (nomark _))
        (pss_one (ps_set (i := 3) sc__law_tables.nd rfl (.inl rfl) (pe_ix ix_list (pe_lst (pa_cons pe_str (pa_cons pe_str (pa_cons pe_str pa_nil)))) (pe_call G74 (hr.mono (by decide)) (by rfl) T.g74 T.F74.kp T.b74 .nil pass0 (pa_cons (pv 0) (pa_cons pe_int pa_nil))) (fun _ _ => rfl))))
        pss_nil)
      (Evl.pss_cut (ps_if (pt_cmp (pc_din (hu_of hr) (pv 3) (pv 1)))
        (pss_one (ps_set (i := 3) sc__law_tables.nd rfl (.inl rfl) (pe_ix ix_list (pe_lc (own := [("_law_one", 4)]) rfl sc__law_tables.nd (pi_list (pe_lst (pa_cons pe_str (pa_cons pe_str (pa_cons pe_str (pa_cons pe_str pa_nil)))))) (blkOk_by (N := ["_law_state_here", "_law_tables_here", "_law_k", "_law_name", "_law_one"]) (sc := defScope s__law_tables) (by decide +kernel)) (fun _ _ _ _ _ => pg_name (i := 4) sc__law_tables.nd rfl (.inl rfl)) (fun _ _ _ _ _ => (pts_one (pt_cmp (pc_dnotin (hu_of hr) (pv 4) (pv 1))))) (fun _ _ _ _ _ => (pv 4))) pe_int (fun _ _ => rfl))))
        pss_nil)
      (pss_one (ps_dput (hu_of hr) (pv 1) (pv 3) (pe_op op_add pe_int (pe_call G74 (hr.mono (by decide)) (by rfl) T.g74 T.F74.kp T.b74 .nil pass0 (pa_cons (pv 0) (pa_cons pe_int pa_nil)))) rfl))))))
  (pss_one (ps_ret (pv 1))))), ?_⟩
    intro t ht
    have nt : t ≠ p := hP.ne ht
    have C1 : Chs p H (upd H t (.dK [])) := (Chs.refl hP).mut ht nt
    refine ⟨_, rfl, p, 4, rfl, C1.1, by decide, by decide, fun m H2 m0 m1 C2 => ⟨_, _, rfl, rfl, _, rfl, by omega, by omega, ?_⟩⟩
    refine for_range (lo := 0) (n := (1 + m).toNat) (fun i σ H' => ∃ (ts : List (Str × Int)) (y2 y3 : Option V), σ = [some (.ref p), some (.ref t), y2, y3, none] ∧ H' t = some (.dK (tabK ts)) ∧ Tabs ts i 4 ∧ Chs p H H')
      ⟨[], none, none, rfl, C2.at nt upd_same, ⟨⟨rfl, List.nodup_nil, fun s h => by cases h⟩, fun b h => by cases h⟩, C1.trans C2⟩ (fun i σ H' hi hp => ?_) (fun σ H' hp => ?_)
    · obtain ⟨ts, y2, y3, rfl, ht', hT, C3⟩ := hp
      have hi3 : i < 4 := by omega
      refine ⟨_, rfl, p, rfl, C3.1, fun s H3 hs C4 => ?_⟩
      have ht3 := C4.at nt ht'
      have C34 := C3.trans C4
      refine ⟨fun σ H' => ∃ n : Str, σ = [some (.ref p), some (.ref t), some (.int (0 + (i : Int))), some (.str n), none] ∧ Wd n ∧ H' t = some (.dK (tabK ts)) ∧ Chs p H H', ?_, ?_⟩
      · refine ⟨_, rfl, p, 3, rfl, C34.1, by decide, by decide, fun r H4 r0 r1 C5 => ⟨rfl, _, rfl, ite_eqI (fun _ => ?_) (fun _ => ⟨s, rfl, hs, C5.at nt ht3, C34.trans C5⟩)⟩⟩
        have C45 := C34.trans C5
        have ht4 := C5.at nt ht3
        refine ⟨by show 3 ≤ sizeLine; decide, fun L hL => ?_⟩
        have nL := C45.1.ne hL
        have C6 := C45.mut (o := .lst ((["question", "part", "atom"] : List Str).map V.str)) (C45.free hP hL) nL
        have ht6 : upd H4 L (.lst ((["question", "part", "atom"] : List Str).map V.str)) t = some (.dK (tabK ts)) := by rw [upd_ne (ne_of_none ht4 hL)]; exact ht4
        refine ⟨_, rfl, p, 3, rfl, C6.1, by decide, by decide, fun r2 H7 r20 r21 C7 => ?_⟩
        obtain ⟨v, hv⟩ := at_some (xs := (["question", "part", "atom"] : List Str).map V.str) r20 r21
        obtain ⟨n, hn, rfl⟩ := List.mem_map.mp (atI_mem hv)
        exact ⟨_, _, _, _, rfl, rfl, .of (C7.at nL upd_same), hv, n, rfl, wd5 n hn, C7.at nt ht6, C6.trans C7⟩
      rintro σ H3 ⟨s, rfl, hs, ht3, C34⟩
      refine ⟨fun σ H' => ∃ n : Str, σ = [some (.ref p), some (.ref t), some (.int (0 + (i : Int))), some (.str n), none] ∧ Wd n ∧ n ∉ ts.map (·.1) ∧ H' t = some (.dK (tabK ts)) ∧ Chs p H H', ?_, ?_⟩
      · refine ⟨_, rfl, _, rfl, t, _, rfl, DGet.k (k := Sum.inr s) ht3, _, rfl, ?_⟩
        cases ev : (valV (tabK ts) (Sum.inr s)).isSome with
        | false => exact ifF ⟨s, rfl, hs, val_isn ev, ht3, C34⟩
        | true =>
          refine ifT ?_
          have nL : ∀ L, H3 L = none → L ≠ p ∧ L ≠ t := fun L e => ⟨C34.1.ne e, (ne_of_none ht3 e).symm⟩
          refine ⟨by show 4 ≤ sizeLine; decide, fun L hL => ⟨L, rfl, ⟨_, .of upd_same⟩, fun D hD => ?_⟩⟩
          have C5 := C34.mut (o := .lst ((["q", "r", "s", "t"] : List Str).map V.str)) (C34.free hP hL) (nL L hL).1
          have nD : D ≠ p := C5.1.ne hD
          have nDL : D ≠ L := fun e => by rw [e, upd_same] at hD; cases hD
          have ht5 : upd H3 L (.lst ((["q", "r", "s", "t"] : List Str).map V.str)) t = some (.dK (tabK ts)) := by rw [upd_ne (nL L hL).2.symm]; exact ht3
          have nDt : D ≠ t := (ne_of_none ht5 hD).symm
          have dH := C5.free hP hD
          refine lc_list (K := K) (a := L) (xs := (["q", "r", "s", "t"] : List Str).map V.str) (fun i H' => H' D = some (.lst ((((["q", "r", "s", "t"] : List Str).take i).filter fun n => !(valV (tabK ts) (Sum.inr n)).isSome).map V.str)) ∧ H' L = some (.lst ((["q", "r", "s", "t"] : List Str).map V.str)) ∧ H' t = some (.dK (tabK ts)) ∧ Chs p H H')
            ⟨upd_same, by rw [upd_ne nDL.symm]; exact upd_same, by rw [upd_ne nDt.symm]; exact ht5, C5.mut dH nD⟩ (fun i H' _ hp => .of hp.2.1) (fun i x H' hx hp => ?_) (fun H' hp => ?_)
          · obtain ⟨h1, h2, h3, h4⟩ := hp
            obtain ⟨n, hn, rfl⟩ := map_at hx
            have hi : i < 4 := (List.getElem?_eq_some_iff.mp hn).1
            refine ⟨rfl, ?_⟩
            refine ⟨_, rfl, _, rfl, t, _, rfl, DGet.k (k := Sum.inr n) h3, _, rfl, ?_⟩
            have et : ((["q", "r", "s", "t"] : List Str).take (i + 1)).filter (fun n => !(valV (tabK ts) (Sum.inr n)).isSome) = ((["q", "r", "s", "t"] : List Str).take i).filter (fun n => !(valV (tabK ts) (Sum.inr n)).isSome) ++ [n].filter (fun n => !(valV (tabK ts) (Sum.inr n)).isSome) := by
              rw [take_snoc hn, List.filter_append]
            cases e : (valV (tabK ts) (Sum.inr n)).isSome with
            | true =>
              refine ifF ⟨?_, h2, h3, h4⟩
              rw [et, List.filter_cons_of_neg (by rw [e]; decide), List.filter_nil, List.append_nil]
              exact h1
            | false =>
              refine ifT ⟨_, rfl, _, h1, ?_, ?_, by rw [upd_ne nDL.symm]; exact h2, by rw [upd_ne nDt.symm]; exact h3, h4.mut dH nD⟩
              · rw [List.length_map]
                exact Nat.lt_of_le_of_lt (List.length_filter_le ..) (by rw [List.length_take]; show min i 4 < sizeLine; exact Nat.lt_of_le_of_lt (Nat.min_le_right ..) (by decide))
              · rw [et, List.filter_cons_of_pos (by rw [e]; rfl), List.map_append]
                exact upd_same
          · obtain ⟨h1, h2, h3, h4⟩ := hp
            have hex : ∃ n ∈ (["q", "r", "s", "t"] : List Str), (valV (tabK ts) (Sum.inr n)).isSome = false := by
              refine Classical.byContradiction fun hno => ?_
              have hall : ∀ n ∈ (["q", "r", "s", "t"] : List Str), n ∈ ts.map (·.1) := fun n hn => val_isy (by
                cases e : (valV (tabK ts) (Sum.inr n)).isSome with
                | true => rfl
                | false => exact absurd ⟨n, hn, e⟩ hno)
              have := (nd_sub nodup4 hall).1
              rw [List.length_map, hT.len] at this
              have h3 : (["q", "r", "s", "t"] : List Str).length = 4 := rfl
              omega
            obtain ⟨n0, hn0, e0⟩ := hex
            have hm : n0 ∈ ((["q", "r", "s", "t"] : List Str).take 4).filter fun n => !(valV (tabK ts) (Sum.inr n)).isSome := List.mem_filter.mpr ⟨hn0, by rw [e0]; rfl⟩
            obtain ⟨n, r, er⟩ : ∃ n r, ((["q", "r", "s", "t"] : List Str).take 4).filter (fun n => !(valV (tabK ts) (Sum.inr n)).isSome) = n :: r := by
              cases e : ((["q", "r", "s", "t"] : List Str).take 4).filter (fun n => !(valV (tabK ts) (Sum.inr n)).isSome) with
              | nil => rw [e] at hm; cases hm
              | cons n r => exact ⟨n, r, rfl⟩
            have hnm : n ∈ ((["q", "r", "s", "t"] : List Str).take 4).filter (fun n => !(valV (tabK ts) (Sum.inr n)).isSome) := by rw [er]; exact List.mem_cons_self
            obtain ⟨g1, g2⟩ := List.mem_filter.mp hnm
            have h1 : H' D = some (.lst ((((["q", "r", "s", "t"] : List Str).take 4).filter fun n => !(valV (tabK ts) (Sum.inr n)).isSome).map V.str)) := h1
            rw [er] at h1
            exact ⟨_, _, _, _, rfl, rfl, .of h1, atI_nat (j := 0) rfl, n, rfl, wd4 n g1, val_isn (by simpa using g2), h3, h4⟩
      · rintro σ H4 ⟨n, rfl, hn, hnn, ht4, C5⟩
        refine ⟨_, rfl, p, 4, rfl, C5.1, by decide, by decide, fun r H5 r0 r1 C6 => ⟨_, _, rfl, rfl, _, rfl, _, rfl, t, _, rfl, DPut.k (k := Sum.inr n) (C6.at nt ht4) ?_, ts ++ [(n, 1 + r)], _, _, rfl, ?_, ⟨⟨?_, ?_, ?_⟩, ?_⟩, (C5.trans C6).mut ht nt⟩⟩
        · unfold tabK
          rw [List.length_map]
          exact Nat.lt_of_le_of_lt (by have := hT.len; omega : _ ≤ 26) (by decide)
        · unfold tabK
          rw [snoc_map]
          refine Eq.trans upd_same (congrArg (fun x => some (HO.dK x)) (putK_new _ (valV_no ?_)))
          have e := keys_tab ts
          unfold tabK at e
          rw [e]
          exact inr_no hnn
        · rw [List.length_map, List.length_append, hT.len]; rfl
        · rw [List.map_append]
          exact List.nodup_append.mpr ⟨hT.nm.nd, by simp, fun x hx y hy e => by
            have hy : y = n := List.mem_singleton.mp hy
            rw [e, hy] at hx
            exact hnn hx⟩
        · intro z hz
          rw [List.map_append] at hz
          rcases List.mem_append.mp hz with h | h
          · exact hT.nm.wd z h
          · rw [show z = n from List.mem_singleton.mp h]
            exact hn
        · intro b hb
          rcases List.mem_append.mp hb with h | h
          · exact hT.wd b h
          · rw [List.mem_singleton.mp h]
            exact ⟨by show 1 ≤ 1 + r; omega, by show 1 + r ≤ 4; omega⟩
    · obtain ⟨ts, y2, y3, rfl, ht', hT, C3⟩ := hp
      have hl := hT.len
      exact ⟨_, rfl, q t ts H' ht ht' (by rw [hl]; exact hT) (by omega) (by omega) C3⟩
end
section
variable {P : Program} {w : World} {K : PySem.W.Frag} {mg : Str → Option Value} {base : Heap} {a : Nat → Addr} {d : Nat → FuncData}
/-- a term of a head: it is a value, or stands in an atom -/
def Safe (ads : List PyData) (t : PyData) : Prop := termD t = true ∧ (varD t = true → t ∈ ads.flatMap atTerms)
def AtT (ts : List (Str × Int)) (x : PyData) : Prop := ∃ n us, x = .tuple [.str n, .tuple us] ∧ (n, (us.length : Int)) ∈ ts ∧ ∀ t ∈ us, termD t = true
def spPart4 : Sp := fun vs H Q _ => ∃ (C : Addr → Prop) (p t : Addr) (ts : List (Str × Int)) (m : Nat), vs = [.ref p, .ref t, .int (m : Int)] ∧ C p ∧ Cell H p ∧ Occ C H ∧ H t = some (.dK (tabK ts)) ∧ Tabs ts ts.length 4 ∧ 1 ≤ ts.length ∧ ts.length ≤ 4 ∧ m ≤ 12 ∧ ∀ (v : V) (hs as : List PyData) (H' : Hp), DA C H' 5 v (.tuple [.tuple hs, .list as]) → hs.length = m → as.length ≤ 5 → (∀ x ∈ as, AtT ts x) → (∀ x ∈ hs, Safe as x) → Chs p H H' → Q v H'
theorem ok_lpart (T : Txt K mg a d) : FnOk P w K mg base CX0 5 (a 78) (d 78) ["_law_state_here", "_law_tables_here", "_law_width"] spPart4 := by
  have G74 : FnOk P w K mg base CX0 1 (a 74) (d 74) ["_law_state_here", "_law_many"] spPick2 := ok_pick2 T
  have G76 : FnOk P w K mg base CX0 4 (a 76) (d 76) ["_law_state_here"] spTerm3 := ok_lterm T
  refine T.F78.ok sc__law_part (fun vs H Q E h => ?_) (fun cdv A outer s H vs Q E hr h => ?_)
  · obtain ⟨C, p, t, ts, m, rfl, _⟩ := h
    rfl
  · obtain ⟨C, p, t, ts, m, rfl, hc, hP, hO, ht, hT, t1, t3, m3, q⟩ := h
    have hu := hu_of hr
    refine ⟨_, (pss_cons (ps_set (i := 3) sc__law_part.nd rfl (.inl rfl) (pe_callTy (T := "list")  (call_listD rfl) (by rfl) T.z_list (by decide +kernel) (pa_cons (pv 1) pa_nil)))
  (pss_cons (ps_set (i := 4) sc__law_part.nd rfl (.inl rfl) (pe_lst pa_nil))
  (pss_cons (ps_set (i := 5) sc__law_part.nd rfl (.inr rfl) (pe_lst (pa_cons pe_int (pa_cons pe_str pa_nil))))
  (pss_cons (ps_for PassesOwn.never rfl (pi_range1 (by rfl) T.z_range (pa_cons (pe_call G74 (hr.mono (by decide)) (by rfl) T.g74 T.F74.kp T.b74 .nil pass0 (pa_cons (pv 0) (pa_cons pe_int pa_nil))) pa_nil)) (pg_name (i := 6) sc__law_part.nd rfl (.inl rfl))
    (pss_cons (ps_set (i := 7) sc__law_part.nd rfl (.inl rfl) (pe_ix ix_list (pv 3) (pe_call G74 (hr.mono (by decide)) (by rfl) T.g74 T.F74.kp T.b74 .nil pass0 (pa_cons (pv 0) (pa_cons (pe_callB (id := "len")  call_len_seq (by rfl) T.z_len (by decide +kernel) (pa_cons (pv 3) pa_nil)) pa_nil))) (fun _ _ => rfl)))
      (pss_cons (ps_expr (pe_bm PySem.F.plainAttrs_list PySem.F.slot_list_append PySem.F.type_list_append mt_append (pv 4) (pa_cons (pe_tup (pa_cons (pv 7) (pa_cons (pe_callTy (T := "tuple")  call_tuple_of (by rfl) T.z_tuple (by decide +kernel) (pa_cons (pe_lc (own := [("_law_column", 8)]) rfl sc__law_part.nd (pi_range1 (by rfl) T.z_range (pa_cons (pe_dget (hu_of hr) (pv 1) (pv 7) (fun _ _ => rfl)) pa_nil)) (blkOk_by (N := ["_law_state_here", "_law_tables_here", "_law_width", "_law_names", "_law_atoms", "_law_safe", "_law_k", "_law_name", "_law_column"]) (sc := defScope s__law_part) (by decide +kernel)) (fun _ _ _ _ _ => pg_name (i := 8) sc__law_part.nd rfl (.inl rfl)) (fun _ _ _ _ _ => pts_nil) (fun _ _ _ _ _ => (pe_call G76 (hr.mono (by decide)) (by rfl) T.g76 T.F76.kp T.b76 .nil pass0 (pa_cons (pv 0) pa_nil)))) pa_nil)) pa_nil))) pa_nil)))
      (pss_one (ps_expr (pe_bm PySem.F.plainAttrs_list PySem.F.slot_list_extend PySem.F.type_list_extend mt_extend (pv 5) (pa_cons (pe_callTy (T := "list")  call_list_of (by rfl) T.z_list (by decide +kernel) (pa_cons (pe_ix ix_tup (pe_ix ix_list (pv 4) (pv 6) (fun _ _ => rfl)) pe_int (fun _ _ => rfl)) pa_nil)) pa_nil)))))))
  (pss_one (ps_ret (pe_tup (pa_cons (pe_callTy (T := "tuple")  call_tuple_of (by rfl) T.z_tuple (by decide +kernel) (pa_cons (pe_lc (own := [("_law_column", 8)]) rfl sc__law_part.nd (pi_range1 (by rfl) T.z_range (pa_cons (pv 2) pa_nil)) (blkOk_by (N := ["_law_state_here", "_law_tables_here", "_law_width", "_law_names", "_law_atoms", "_law_safe", "_law_k", "_law_name", "_law_column"]) (sc := defScope s__law_part) (by decide +kernel)) (fun _ _ _ _ _ => pg_name (i := 8) sc__law_part.nd rfl (.inl rfl)) (fun _ _ _ _ _ => pts_nil) (fun _ _ _ _ _ => (pe_ix (r := rIxL K) ix_list (pv 5) (pe_call G74 (hr.mono (by decide)) (by rfl) T.g74 T.F74.kp T.b74 .nil pass0 (pa_cons (pv 0) (pa_cons (pe_callB (id := "len") (r := Evl.rLenS K)  call_len_seq (by rfl) T.z_len (by decide +kernel) (pa_cons (pv 5) pa_nil)) pa_nil))) (fun _ _ => rfl)))) pa_nil)) (pa_cons (pv 4) pa_nil))))))))), ?_⟩
    have nt : t ≠ p := cell_ne hP ht (by intro _ z; cases z)
    have kn : (tabK ts).map (fun kv => kV kv.1) = (ts.map (·.1)).map V.str := by
      have h := keys_tab ts
      have : (tabK ts).map (fun kv => kV kv.1) = ((tabK ts).map (·.1)).map kV := by rw [List.map_map]; rfl
      rw [this, h, List.map_map]
      rfl
    refine ⟨_, rfl, t, _, rfl, .inl ht, fun N hN => ?_⟩
    rw [kn]
    have nN := hP.ne hN
    have C1 := (Chs.refl hP).mut (o := .lst ((ts.map (·.1)).map V.str)) hN nN
    refine ⟨Nat.zero_le _, fun A0 hA0 => ?_⟩
    have nA := C1.1.ne hA0
    have nAN : A0 ≠ N := fun e => by rw [e, upd_same] at hA0; cases hA0
    have ht1 : upd H N (.lst ((ts.map (·.1)).map V.str)) t = some (.dK (tabK ts)) := by rw [upd_ne (ne_of_none ht hN)]; exact ht
    have nAt : A0 ≠ t := (ne_of_none ht1 hA0).symm
    have fA := C1.free hP hA0
    have C3 := C1.mut (o := .lst []) fA nA
    have hN3 : upd (upd H N (.lst ((ts.map (·.1)).map V.str))) A0 (.lst []) N = some (.lst ((ts.map (·.1)).map V.str)) := by rw [upd_ne nAN.symm]; exact upd_same
    have ht3 := C3.at nt ht
    have hA3 : upd (upd H N (.lst ((ts.map (·.1)).map V.str))) A0 (.lst []) A0 = some (.lst []) := upd_same
    generalize upd (upd H N (.lst ((ts.map (·.1)).map V.str))) A0 (.lst []) = H3 at C3 hN3 ht3 hA3 ⊢
    refine ⟨by show 2 ≤ sizeLine; decide, fun S0 hS0 => ?_⟩
    have nS := C3.1.ne hS0
    have nSN : S0 ≠ N := (ne_of_none hN3 hS0).symm
    have nSt : S0 ≠ t := (ne_of_none ht3 hS0).symm
    have nSA : S0 ≠ A0 := (ne_of_none hA3 hS0).symm
    have fS := C3.free hP hS0
    have C4 := C3.mut (o := .lst [.int 5, .str "w"]) fS nS
    have kC : ∀ x, ¬ C x → x ≠ p := fun x h e => h (e ▸ hc)
    have wdw : Wd "w" := ⟨by decide +kernel, by decide +kernel, by decide +kernel⟩
    refine ⟨_, rfl, p, 6, rfl, C4.1, by decide, by decide, fun n H5 n0 n1 C5' => ⟨_, rfl, by omega, by omega, ?_⟩⟩
    have C5 := C4.trans C5'
    refine for_range (lo := 0) (n := n.toNat) (fun i σ H' => ∃ (avs svs : List V) (ads sds : List PyData) (y6 y7 : Option V), σ = [some (.ref p), some (.ref t), some (.int m), some (.ref N), some (.ref A0), some (.ref S0), y6, y7, none] ∧ H' N = some (.lst ((ts.map (·.1)).map V.str)) ∧ H' t = some (.dK (tabK ts)) ∧ H' A0 = some (.lst avs) ∧ avs.length = i ∧ Paired (DA (fun x => C x ∨ x = A0 ∨ x = S0) H' 3) avs ads ∧ H' S0 = some (.lst svs) ∧ 2 ≤ svs.length ∧ svs.length ≤ 2 + 4 * i ∧ Paired (DA (fun x => C x ∨ x = A0 ∨ x = S0) H' 1) svs sds ∧ Chs p H H' ∧ (∀ x ∈ ads, AtT ts x) ∧ ∀ x ∈ sds, Safe ads x)
      ⟨[], [.int 5, .str "w"], [], [.int 5, .str "w"], none, none, rfl, C5'.at nN (by rw [upd_ne nSN.symm]; exact hN3), C5.at nt ht, C5'.at nA (by rw [upd_ne nSA.symm]; exact hA3), rfl, .nil, C5'.at nS upd_same, Nat.le_refl _, Nat.le_refl _, .cons (Sc.da (.int 5)) (.cons (wd_da wdw) .nil), C5, (fun x h => nomatch h), ?_⟩ (fun i σ H' hi hp => ?_) (fun σ H' hp => ?_)
    · intro x hx
      rcases List.mem_cons.mp hx with rfl | hx
      · exact ⟨term_i (by decide), fun h => by cases h⟩
      · rw [List.mem_singleton.mp hx]
        exact ⟨term_w wdw, fun h => by cases h⟩
    · obtain ⟨avs, svs, ads, sds, y6, y7, rfl, hN', ht', hA', la, pa, hS', ls1, ls2, ps, C6, hAt, hSf⟩ := hp
      have hi5 : i < 6 := by omega
      have ln : ((ts.map (·.1)).map V.str).length = ts.length := by rw [List.length_map, List.length_map]
      refine ⟨_, rfl, _, rfl, _, rfl, N, _, rfl, .inl (.of hN'), p, (((ts.map (·.1)).map V.str).length : Int), rfl, C6.1, by rw [ln]; omega, by rw [ln, Int.natAbs_natCast]; exact Nat.lt_of_le_of_lt t3 (by decide), fun r H7 r0 r1 C7' => ?_⟩
      have C7 := C6.trans C7'
      obtain ⟨v, hv⟩ := at_some (xs := (ts.map (·.1)).map V.str) r0 r1
      obtain ⟨nm, hnm, rfl⟩ := List.mem_map.mp (atI_mem hv)
      obtain ⟨b, hb, rfl⟩ := List.mem_map.mp hnm
      refine ⟨_, _, _, _, rfl, rfl, .of (C7'.at nN hN'), hv, ?_⟩
      have ht7 := C7'.at nt ht'
      have hw := hT.wd b hb
      have hA7 := C7'.at nA hA'
      refine ⟨_, rfl, .inl ⟨rfl, _, .of hA7⟩, ?_⟩
      have hN7 := C7'.at nN hN'
      have hS7 := C7'.at nS hS'
      have pa7 := paired_imp (fun _ _ h => DA.chs h C7' (.inl hc)) pa
      have ps7 := paired_imp (fun _ _ h => DA.chs h C7' (.inl hc)) ps
      refine ⟨_, rfl, _, rfl, _, rfl, t, _, rfl, tab_at ht7 hT.nm.nd (w := b.2) hb, ?_⟩
      refine ⟨_, rfl, by omega, by omega, fun D hD => ?_⟩
      have nD := C7.1.ne hD
      have nDA : D ≠ A0 := (ne_of_none hA7 hD).symm
      have nDS : D ≠ S0 := (ne_of_none hS7 hD).symm
      have fD := C7.free hP hD
      refine lc_range (lo := 0) (n := (b.2).toNat) (fun j H' => ∃ (xs : List V) (ds : List PyData), H' D = some (.lst xs) ∧ xs.length = j ∧ Paired (DA (fun x => C x ∨ x = A0 ∨ x = S0 ∨ x = D) H' 1) xs ds ∧ Chs p H7 H' ∧ ∀ y ∈ ds, termD y = true)
        ⟨[], [], upd_same, rfl, .nil, (Chs.refl C7.1).mut hD nD, fun y h => nomatch h⟩ (fun j H' hj hp => ?_) (fun H8 hp => ?_)
      · obtain ⟨xs, ds, h1, h2, h3, h4, h5⟩ := hp
        have occ : Occ (fun x => C x ∨ x = A0 ∨ x = S0 ∨ x = D) H' := fun x hx => by
          rcases hx with hx | rfl | rfl | rfl
          · exact (hO.chs (C7.trans h4)) x hx
          · exact ⟨_, h4.at nA hA7⟩
          · exact ⟨_, h4.at nS hS7⟩
          · exact ⟨_, h1⟩
        refine ⟨rfl, _, rfl, (fun x => C x ∨ x = A0 ∨ x = S0 ∨ x = D), p, rfl, .inl hc, h4.1, occ, fun v d H9 hv htd C9 => ?_⟩
        refine ⟨_, C9.at nD h1, small1000 (by omega), xs ++ [v], ds ++ [d], upd_same, by rw [List.length_append, h2]; rfl, ?_, (h4.trans C9).mut hD nD, fun y hy => ?_⟩
        · have kp : ∀ x o, ¬ (C x ∨ x = A0 ∨ x = S0 ∨ x = D) → H9 x = some o → upd H9 D (.lst (xs ++ [v])) x = some o := fun x o hn e => by
            rw [upd_ne (fun e' => hn (.inr (.inr (.inr e'))))]
            exact e
          exact paired_app (paired_imp (fun _ _ h => (DA.chs h C9 (.inl hc)).keep kp) h3) (.cons (hv.keep kp) .nil)
        · rcases List.mem_append.mp hy with hy | hy
          · exact h5 y hy
          · rw [List.mem_singleton.mp hy]
            exact htd
      · obtain ⟨xs, ds, h1, h2, h3, h4, h5⟩ := hp
        have lds := Paired.length h3
        have C8 := C7.trans h4
        refine ⟨D, _, rfl, .inl ⟨.of h1, fun tp htp => ?_⟩⟩
        have s8 := same_upd (o := .tup xs) htp
        have C9 := C8.sm s8
        have nCt : ¬ (C tp ∨ tp = A0 ∨ tp = S0 ∨ tp = D) := fun x => by
          rcases x with x | rfl | rfl | rfl
          · exact (hO.chs C8).new htp x
          · rw [h4.at nA hA7] at htp; cases htp
          · rw [h4.at nS hS7] at htp; cases htp
          · rw [h1] at htp; cases htp
        have b3 : b.2.toNat ≤ 4 := by omega
        have w4 : ∀ x, (C x ∨ x = A0 ∨ x = S0) → (C x ∨ x = A0 ∨ x = S0 ∨ x = D) := fun x h => by
          rcases h with h | h | h
          · exact .inl h
          · exact .inr (.inl h)
          · exact .inr (.inr (.inl h))
        have h3' : Paired (DA (fun x => C x ∨ x = A0 ∨ x = S0) (upd H8 tp (.tup xs)) 1) xs ds := paired_imp (fun _ _ h => (h.weak w4).same s8) h3
        have tpD : DA (fun x => C x ∨ x = A0 ∨ x = S0) (upd H8 tp (.tup xs)) 2 (.ref tp) (.tuple ds) := .tup (fun x => nCt (w4 _ x)) upd_same (by omega) h3'
        have hA8 := h4.at nA hA7
        have hS8 := h4.at nS hS7
        have ntA : tp ≠ A0 := fun e => nCt (.inr (.inl e))
        refine ⟨by show 2 ≤ sizeLine; decide, fun q2 hq2 => ?_⟩
        have s9 := same_upd (o := .tup [.str b.1, .ref tp]) hq2
        have nCq : ¬ (C q2 ∨ q2 = A0 ∨ q2 = S0) := fun x => by
          rcases x with x | rfl | rfl
          · exact (hO.chs C9).new hq2 x
          · rw [s8 _ _ hA8] at hq2; cases hq2
          · rw [s8 _ _ hS8] at hq2; cases hq2
        have qD : DA (fun x => C x ∨ x = A0 ∨ x = S0) _ 3 (.ref q2) (.tuple [.str b.1, .tuple ds]) := .tup nCq upd_same (by show 2 ≤ 5000; decide) (.cons (wd_da (hT.nm.wd _ (List.mem_map.mpr ⟨b, hb, rfl⟩))) (.cons (tpD.same s9) .nil))
        have C10 := C9.sm s9
        have hA10 := s9 _ _ (s8 _ _ hA8)
        have hS10 := s9 _ _ (s8 _ _ hS8)
        have pa8 : Paired (DA (fun x => C x ∨ x = A0 ∨ x = S0) (upd (upd H8 tp (.tup xs)) q2 (.tup [.str b.1, .ref tp])) 3) (avs ++ [.ref q2]) (ads ++ [.tuple [.str b.1, .tuple ds]]) :=
          paired_app (paired_imp (fun _ _ h => ((DA.chs h h4 (.inl hc)).same s8).same s9) pa7) (.cons qD .nil)
        have ps8 : Paired (DA (fun x => C x ∨ x = A0 ∨ x = S0) (upd (upd H8 tp (.tup xs)) q2 (.tup [.str b.1, .ref tp])) 1) (svs ++ xs) (sds ++ ds) :=
          paired_app (paired_imp (fun _ _ h => ((DA.chs h h4 (.inl hc)).same s8).same s9) ps7) (paired_imp (fun _ _ h => h.same s9) h3')
        have htp10 := s9 _ _ (upd_same (a := tp) (o := .tup xs) (H := H8))
        have hq10 : upd (upd H8 tp (.tup xs)) q2 (.tup [.str b.1, .ref tp]) q2 = some (.tup [.str b.1, .ref tp]) := upd_same
        have hN10 := s9 _ _ (s8 _ _ (h4.at nN hN7))
        have ht10 := s9 _ _ (s8 _ _ (h4.at nt ht7))
        generalize upd (upd H8 tp (.tup xs)) q2 (.tup [.str b.1, .ref tp]) = H10 at *
        refine ⟨A0, avs, _, rfl, rfl, hA10, small1000 (by omega), ?_⟩
        have k1 : ∀ x o, ¬ (C x ∨ x = A0 ∨ x = S0) → H10 x = some o → upd H10 A0 (.lst (avs ++ [.ref q2])) x = some o := fun x o hn e => by
          rw [upd_ne (fun e' => hn (.inr (.inl e')))]
          exact e
        have nqA : q2 ≠ A0 := fun e => nCq (.inr (.inl e))
        have C11 : Chs p H (upd H10 A0 (.lst (avs ++ [.ref q2]))) := C10.mut fA nA
        have hS11 : upd H10 A0 (.lst (avs ++ [.ref q2])) S0 = some (.lst svs) := by rw [upd_ne nSA]; exact hS10
        have hN11 : upd H10 A0 (.lst (avs ++ [.ref q2])) N = some (.lst ((ts.map (·.1)).map V.str)) := by rw [upd_ne nAN.symm]; exact hN10
        have ht11 : upd H10 A0 (.lst (avs ++ [.ref q2])) t = some (.dK (tabK ts)) := by rw [upd_ne nAt.symm]; exact ht10
        have hA11 : upd H10 A0 (.lst (avs ++ [.ref q2])) A0 = some (.lst (avs ++ [.ref q2])) := upd_same
        have htp11 : upd H10 A0 (.lst (avs ++ [.ref q2])) tp = some (.tup xs) := by rw [upd_ne ntA]; exact htp10
        have hq11 : upd H10 A0 (.lst (avs ++ [.ref q2])) q2 = some (.tup [.str b.1, .ref tp]) := by rw [upd_ne nqA]; exact hq10
        have pa11 := paired_imp (fun _ _ h => DA.keep k1 h) pa8
        have ps11 := paired_imp (fun _ _ h => DA.keep k1 h) ps8
        generalize upd H10 A0 (.lst (avs ++ [.ref q2])) = H11 at *
        clear k1
        have atq : atI (avs ++ [V.ref q2]) (0 + (i : Int)) = some (.ref q2) := by
          rw [Int.zero_add]
          exact atI_nat (by rw [← la]; simp)
        refine ⟨_, rfl, .inl ⟨rfl, _, .of hS11⟩, _, rfl, _, rfl, A0, _, _, _, rfl, rfl, .of hA11, atq, q2, _, _, _, rfl, rfl, .of hq11, atI_nat (j := 1) rfl, tp, xs, rfl, .inr (.of htp11), fun L hL => ?_⟩
        have sL := same_upd (o := .lst xs) hL
        have nLS : L ≠ S0 := (ne_of_none hS11 hL).symm
        refine ⟨S0, L, svs, xs, rfl, rfl, sL _ _ hS11, upd_same, ?_, ?_⟩
        · exact Nat.le_of_lt (small1000 (by omega))
        have k2 : ∀ x o, ¬ (C x ∨ x = A0 ∨ x = S0) → upd H11 L (.lst xs) x = some o → upd (upd H11 L (.lst xs)) S0 (.lst (svs ++ xs)) x = some o := fun x o hn e => by
          rw [upd_ne (fun e' => hn (.inr (.inr e')))]
          exact e
        refine ⟨avs ++ [.ref q2], svs ++ xs, _, _, _, _, rfl, ?_, ?_, ?_, by rw [List.length_append, la]; rfl, paired_imp (fun _ _ h => (h.same sL).keep k2) pa11, upd_same, by rw [List.length_append]; omega, by rw [List.length_append]; omega, paired_imp (fun _ _ h => (h.same sL).keep k2) ps11, (C11.sm sL).mut fS nS, fun y hy => ?_, fun y hy => ?_⟩
        · rw [upd_ne nSN.symm]; exact sL _ _ hN11
        · rw [upd_ne nSt.symm]; exact sL _ _ ht11
        · rw [upd_ne nSA.symm]; exact sL _ _ hA11
        · rcases List.mem_append.mp hy with hy | hy
          · exact hAt y hy
          · rw [List.mem_singleton.mp hy]
            refine ⟨b.1, ds, rfl, ?_, h5⟩
            rw [show ((ds.length : Nat) : Int) = b.2 by omega]
            exact hb
        · rcases List.mem_append.mp hy with hy | hy
          · exact ⟨(hSf y hy).1, fun e => by rw [List.flatMap_append]; exact List.mem_append_left _ ((hSf y hy).2 e)⟩
          · exact ⟨h5 y hy, fun _ => by rw [List.flatMap_append]; exact List.mem_append_right _ (by simpa [atTerms] using hy)⟩
    · obtain ⟨avs, svs, ads, sds, y6, y7, rfl, hN', ht', hA', la, pa, hS', ls1, ls2, ps, C6, hAt, hSf⟩ := hp
      have lads := Paired.length pa
      refine ⟨_, rfl, _, rfl, by omega, by omega, fun D hD => ?_⟩
      have nD := C6.1.ne hD
      have nDA : D ≠ A0 := (ne_of_none hA' hD).symm
      have nDS : D ≠ S0 := (ne_of_none hS' hD).symm
      have fD := C6.free hP hD
      refine lc_range (lo := 0) (n := (m : Int).toNat) (fun j H' => ∃ (xs : List V) (ds : List PyData), H' D = some (.lst xs) ∧ xs.length = j ∧ Paired (DA (fun x => C x ∨ x = D) H' 1) xs ds ∧ Chs p H H' ∧ H' S0 = some (.lst svs) ∧ Paired (DA (fun x => C x ∨ x = D) H' 1) svs sds ∧ H' A0 = some (.lst avs) ∧ Paired (DA (fun x => C x ∨ x = D) H' 3) avs ads ∧ ∀ y ∈ ds, Safe ads y)
        ⟨[], [], upd_same, rfl, .nil, C6.mut fD nD, by rw [upd_ne nDS.symm]; exact hS', paired_imp (fun _ _ h => ((h.weak fun x hx => .inl hx).fresh hD).same (same_upd hD)) ps, by rw [upd_ne nDA.symm]; exact hA', paired_imp (fun _ _ h => ((h.weak fun x hx => .inl hx).fresh hD).same (same_upd hD)) pa, fun y h => nomatch h⟩ (fun j H' hj hp => ?_) (fun H8 hp => ?_)
      · obtain ⟨xs, ds, h1, h2, h3, h4, h5, h6, h7, h8, h9⟩ := hp
        have l100 : svs.length ≤ 100 := by omega
        refine ⟨rfl, _, rfl, _, rfl, _, rfl, S0, _, rfl, .inl (.of h5), p, (svs.length : Int), rfl, h4.1, by omega, by rw [Int.natAbs_natCast]; exact Nat.lt_of_le_of_lt l100 (by decide), fun r H9 r0 r1 C9 => ?_⟩
        obtain ⟨v, hv⟩ := at_some (xs := svs) r0 r1
        obtain ⟨dv, hdv, hvd⟩ := paired_any h6 (atI_mem hv)
        refine ⟨_, _, _, _, rfl, rfl, .of (C9.at nS h5), hv, _, C9.at nD h1, small1000 (by omega), xs ++ [v], ds ++ [dv], upd_same, by rw [List.length_append, h2]; rfl, ?_, (h4.trans C9).mut fD nD, ?_, ?_, ?_, ?_, fun y hy => ?_⟩
        · have kp : ∀ x o, ¬ (C x ∨ x = D) → H9 x = some o → upd H9 D (.lst (xs ++ [v])) x = some o := fun x o hn e => by
            rw [upd_ne (fun e' => hn (.inr e'))]
            exact e
          exact paired_app (paired_imp (fun _ _ h => (DA.chs h C9 (.inl hc)).keep kp) h3) (.cons ((DA.chs hvd C9 (.inl hc)).keep kp) .nil)
        · rw [upd_ne nDS.symm]; exact C9.at nS h5
        · have kp : ∀ x o, ¬ (C x ∨ x = D) → H9 x = some o → upd H9 D (.lst (xs ++ [v])) x = some o := fun x o hn e => by
            rw [upd_ne (fun e' => hn (.inr e'))]
            exact e
          exact paired_imp (fun _ _ h => (DA.chs h C9 (.inl hc)).keep kp) h6
        · rw [upd_ne nDA.symm]; exact C9.at nA h7
        · have kp : ∀ x o, ¬ (C x ∨ x = D) → H9 x = some o → upd H9 D (.lst (xs ++ [v])) x = some o := fun x o hn e => by
            rw [upd_ne (fun e' => hn (.inr e'))]
            exact e
          exact paired_imp (fun _ _ h => (DA.chs h C9 (.inl hc)).keep kp) h8
        · rcases List.mem_append.mp hy with hy | hy
          · exact h9 y hy
          · rw [List.mem_singleton.mp hy]
            exact hSf dv hdv
      · obtain ⟨xs, ds, h1, h2, h3, h4, h5, h6, h7, h8, h9⟩ := hp
        have lds := Paired.length h3
        refine ⟨D, _, rfl, .inl ⟨.of h1, fun tp htp => ?_⟩⟩
        have s8 := same_upd (o := .tup xs) htp
        refine ⟨_, rfl, by show 2 ≤ sizeLine; decide, fun q2 hq2 => ?_⟩
        have s9 := same_upd (o := .tup [.ref tp, .ref A0]) hq2
        have O8 := hO.chs h4
        have nCA : ¬ C A0 := fun h => (hO.chs C1).new hA0 h
        have hdD : DA C (upd H8 tp (.tup xs)) 2 (.ref tp) (.tuple ds) := .tup (O8.new htp) upd_same (by omega) (paired_imp (fun _ _ h => (h.weak fun x hx => .inl hx).same s8) h3)
        have atD : DA C (upd H8 tp (.tup xs)) 4 (.ref A0) (.list ads) := .lst nCA (s8 _ _ h7) (by omega) (paired_imp (fun _ _ h => (h.weak fun x hx => .inl hx).same s8) h8)
        exact q _ ds ads _ (.tup ((O8.same s8).new hq2) upd_same (by show 2 ≤ 5000; decide) (.cons ((hdD.up (by decide)).same s9) (.cons (atD.same s9) .nil))) (by omega) (by omega) hAt h9 ((h4.sm s8).sm s9)
end
section
variable {P : Program} {w : World} {K : PySem.W.Frag} {mg : Str → Option Value} {base : Heap} {a : Nat → Addr} {d : Nat → FuncData}
/-- what Question of these says: its parts, or its error's fields -/
def ToldQ (ts : List (Str × Int)) (wd pd : PyData) (C : Addr → Prop) (n : Nat) (H : Hp) (Q : VK) : Prop :=
  (dueD ts wd pd = none → ∀ t l H', H' t = some (.tup [.str "told", .ref l]) → H t = none → DA C H' n (.ref l) pd → Same H H' → Q (.ref t) H') ∧
  (∀ s i, dueD ts wd pd = some (s, i) → ∀ t H', H' t = some (.tup [.str "raised", .str s, .int i]) → H t = none → Same H H' → Q (.ref t) H')
def spMade (CS : Addr) : Sp := fun vs H Q _ => ∃ (C : Addr → Prop) (n : Nat) (sp : Addr) (ts : List (Str × Int)) (ks : List KeyE) (ss : List SvE) (m ms : Nat) (wi : Int) (xp : V) (ds : List PyData), vs = [.ref sp, .int wi, xp] ∧ Occ C H ∧ n ≤ 50 ∧ SchAt CS sp H ts ks ss m ms ∧ DA C H n xp (.list ds) ∧ ToldQ ts (.int wi) (.list ds) C n H Q
theorem ok_made (T : Txt K mg a d) : FnOk P w K mg base CX0 9 (a 83) (d 83) ["_law_schema", "_law_width", "_law_parts"] (spMade (a 43)) := by
  have G6700 : FnOk P w K mg base (L2.CX P w) 7 (a 6700) (d 6700) ["self", "schema", "width", "parts"] (spQInit (a 43) (a 57) (a 7)) := ok_qinit T
  have G6701 : FnOk P w K mg base CX0 1 (a 6701) (d 6701) ["self"] (spPartL (a 57)) := ok_partl T
  refine T.F83.ok sc__law_made (fun vs H Q E h => ?_) (fun cdv A outer s H vs Q E hr h => ?_)
  · obtain ⟨C, n, sp, ts, ks, ss, m, ms, wi, xp, ds, rfl, _⟩ := h
    rfl
  · obtain ⟨C, n, sp, ts, ks, ss, m, ms, wi, xp, ds, rfl, hO, n50, hS, hd, q0, q1⟩ := h
    have hu := hu_of hr
    refine ⟨_, (pss_cons (ps_set (i := 3) sc__law_made.nd rfl (.inl rfl) (pe_tup (pa_cons pe_str (pa_cons pe_non (pa_cons pe_non pa_nil)))))
  (pss_cons (ps_try_as (i := 4) (Wout := fun _ _ _ _ => False) rfl rfl sc__law_made.nd rfl rfl ⟨rfl, by decide, Or.inl T.cg_7⟩ takes0
    (fun W pn xe tk po => (pss_one (ps_set (i := 3) sc__law_made.nd rfl (.inl rfl) (pe_tup (pa_cons pe_str (pa_cons (pe_meth0 (pe_makeX T.M_57 G6700 (hr.mono (by decide)) (by rfl) T.cg_57 T.b6700 (fun σ => passAt tk σ) (pa_cons (pv 0) (pa_cons (pv 1) (pa_cons (pv 2) pa_nil)))) T.cl_57 T.m_6701 G6701 (hr.mono (by decide)) T.b6701 .nil pass0) pa_nil))))))
    (fun ea oe cls ed pn hz hf => (pss_one (ps_set (i := 3) sc__law_made.nd rfl (.inl rfl) (pe_tup (pa_cons pe_str (pa_cons (pe_xf T.xf_7 T.no_7_part hz hf (pv 4)) (pa_cons (pe_xf T.xf_7 T.no_7_at hz hf (pv 4)) pa_nil))))))))
  (pss_one (ps_ret (pv 3))))), ?_⟩
    refine ⟨by show 3 ≤ sizeLine; decide, fun t0 ht0 => ?_⟩
    have z0 := same_upd (o := .tup [.str "raised", .non, .non]) ht0
    generalize upd H t0 (.tup [.str "raised", .non, .non]) = H1 at z0 ⊢
    have hO1 := hO.same z0
    have hS1 := hS.same z0
    have hd1 := hd.same z0
    refine ⟨_, rfl, _, rfl, _, rfl, fun y dy fy fdy ndy => ?_⟩
    have z13 : Same H1 (upd (upd H1 dy (.own y)) y (.ins (a 57) dy [])) := (same_upd fdy).trans (same_upd (by rw [upd_ne ndy.symm]; exact fy))
    have hy13 : upd (upd H1 dy (.own y)) y (.ins (a 57) dy []) y = some (.ins (a 57) dy []) := upd_same
    generalize upd (upd H1 dy (.own y)) y (.ins (a 57) dy []) = G13 at z13 hy13 ⊢
    have fresh : ∀ {G : Hp} {t : Addr}, Same H G → G t = none → H t = none := fun {G t} s e => by
      cases eH : H t with
      | none => rfl
      | some o => rw [s _ _ eH] at e; cases e
    refine ⟨C, n, y, dy, sp, ts, ks, ss, m, ms, .int wi, xp, .int wi, .list ds, rfl, hy13, hO1.same z13, n50, hS1.same z13, Sc.da (.int wi), hd1.same z13, fun ds' hn e' l G14 hq hl o => ⟨rfl, ?_⟩, fun sx ix he G14 s14 => ?_⟩
    · cases e'
      obtain ⟨_, ds2, _, e2, hfo⟩ := due_none hn
      cases e2
      have hform : ∀ z ∈ ds, ∃ hs as, z = .tuple [.tuple hs, .list as] := fun z hz => by
        obtain ⟨hs, as, e, _⟩ := form_data (hfo z hz)
        exact ⟨hs, as, e⟩
      have s14 : Same H1 G14 := fun b o' e => o b o' (ne_of_none e fy) (z13 _ _ e)
      refine ⟨y, dy, _, rfl, hq, rfl, C, n, y, sp, wi, ds, rfl, hO1.same s14, ⟨dy, l, hq, hl, hform⟩, fun l2 G15 hl2 s15 => ⟨by show 2 ≤ sizeLine; decide, fun t ht => ?_⟩⟩
      have sF := (z0.trans s14).trans s15
      exact ⟨_, rfl, q0 hn t l2 _ upd_same (fresh sF ht) (hl2.same (same_upd ht)) (sF.trans (same_upd ht))⟩
    · have s14' := z13.trans s14
      intro xd G15 hxd hdd s15
      have s15' := s14'.trans s15
      refine ⟨true, T.exm_7_7, fun _ ea hea => ?_, fun z => Bool.noConfusion z⟩
      have sF := z0.trans s15'
      refine ⟨_, rfl, rfl, rfl, xd, _, _, rfl, hdd, rfl, _, rfl, rfl, rfl, xd, _, _, rfl, hdd, rfl, by show 3 ≤ sizeLine; decide, fun t ht => ?_⟩
      exact ⟨_, rfl, (q1 sx ix he t _ upd_same (fresh sF ht) (sF.trans (same_upd ht)))⟩
end
section
variable {P : Program} {w : World} {K : PySem.W.Frag} {mg : Str → Option Value} {base : Heap} {a : Nat → Addr} {d : Nat → FuncData}
def spLRead (CS : Addr) : Sp := fun vs H Q _ => ∃ (C : Addr → Prop) (sp L : Addr) (ts : List (Str × Int)) (ks : List KeyE) (ss : List SvE) (m ms : Nat) (wi : Int) (ds : List PyData), vs = [.ref sp, .ref L] ∧ Occ C H ∧ SchAt CS sp H ts ks ss m ms ∧ H L = some (.lst ((linesD wi ds).map V.str)) ∧ 0 ≤ wi ∧ wi < 10 ^ 30 ∧ ds.length ≤ 40 ∧ (∀ x ∈ ds, PtOk x) ∧ ToldQ ts (.int wi) (.list ds) C 6 H Q
theorem ok_lread (T : Txt K mg a d) (W : TxtQ K w a) : FnOk P w K mg base CX0 11 (a 84) (d 84) ["_law_schema", "_law_lines"] (spLRead (a 43)) := by
  have G67 : FnOk P w K mg base (L2.CX P w) 9 (a 67) (d 67) ["schema", "lines"] (spReadQ a K (a 43) (a 57) (a 7)) := ok_rdq T W
  have G6701 : FnOk P w K mg base CX0 1 (a 6701) (d 6701) ["self"] (spPartL (a 57)) := ok_partl T
  refine T.F84.ok sc__law_read (fun vs H Q E h => ?_) (fun cdv A outer s H vs Q E hr h => ?_)
  · obtain ⟨C, sp, L, ts, ks, ss, m, ms, wi, ds, rfl, _⟩ := h
    rfl
  · obtain ⟨C, sp, L, ts, ks, ss, m, ms, wi, ds, rfl, hO, hS, hL, w0, w1, l40, hok, q0, q1⟩ := h
    have hu := hu_of hr
    refine ⟨_, (pss_cons (ps_set (i := 2) sc__law_read.nd rfl (.inl rfl) (pe_tup (pa_cons pe_str (pa_cons pe_non (pa_cons pe_non pa_nil)))))
  (pss_cons (ps_try_as (i := 3) (Wout := fun _ _ _ _ => False) rfl rfl sc__law_read.nd rfl rfl ⟨rfl, by decide, Or.inl T.cg_7⟩ takes0
    (fun W pn xe tk po => (pss_one (ps_set (i := 2) sc__law_read.nd rfl (.inl rfl) (pe_tup (pa_cons pe_str (pa_cons (pe_meth0 (pe_callS G67 (hr.mono (by decide)) (by rfl) T.g67 T.F67.kp T.b67 (fun σ => passAt tk σ) (pa_cons (pv 0) (pa_cons (pv 1) pa_nil))) T.cl_57 T.m_6701 G6701 (hr.mono (by decide)) T.b6701 .nil pass0) pa_nil))))))
    (fun ea oe cls ed pn hz hf => (pss_one (ps_set (i := 2) sc__law_read.nd rfl (.inl rfl) (pe_tup (pa_cons pe_str (pa_cons (pe_xf T.xf_7 T.no_7_part hz hf (pv 3)) (pa_cons (pe_xf T.xf_7 T.no_7_at hz hf (pv 3)) pa_nil))))))))
  (pss_one (ps_ret (pv 2))))), ?_⟩
    refine ⟨by show 3 ≤ sizeLine; decide, fun t0 ht0 => ?_⟩
    have z0 := same_upd (o := .tup [.str "raised", .non, .non]) ht0
    generalize upd H t0 (.tup [.str "raised", .non, .non]) = H1 at z0 ⊢
    have hO1 := hO.same z0
    have hS1 := hS.same z0
    have fresh : ∀ {G : Hp} {t : Addr}, Same H G → G t = none → H t = none := fun {G t} s e => by
      cases eH : H t with
      | none => rfl
      | some o => rw [s _ _ eH] at e; cases e
    have hmk : mkQ [] (ds.flatMap pLn) = ds := mkQ_back (ps := []) hok
    have lln := lines_len (w := wi) hok
    refine ⟨_, rfl, _, rfl, C, sp, L, ts, ks, ss, m, ms, wi, [nT wi], ds.flatMap pLn, linesD wi ds, rfl, hO1, hS1, z0 _ _ hL, by omega, lineok_all w0 w1 hok, says_all w0 w1 hok, pLn_q, pLn_first, ?_, ?_⟩
    · rw [hmk]
      intro hn y dx l G14 _ hq hl s14
      obtain ⟨_, ds2, _, e2, hfo⟩ := due_none hn
      cases e2
      have hform : ∀ z ∈ ds, ∃ hs as, z = .tuple [.tuple hs, .list as] := fun z hz => by
        obtain ⟨hs, as, e, _⟩ := form_data (hfo z hz)
        exact ⟨hs, as, e⟩
      refine ⟨y, dx, _, rfl, hq, rfl, C, 6, y, sp, wi, ds, rfl, hO1.same s14, ⟨dx, l, hq, hl, hform⟩, fun l2 G15 hl2 s15 => ⟨by show 2 ≤ sizeLine; decide, fun t ht => ?_⟩⟩
      have sF := (z0.trans s14).trans s15
      exact ⟨_, rfl, q0 hn t l2 _ upd_same (fresh sF ht) (hl2.same (same_upd ht)) (sF.trans (same_upd ht))⟩
    · rw [hmk]
      intro sx ix he G14 s14 xd G15 hxd hdd s15
      have s15' := s14.trans s15
      refine ⟨true, T.exm_7_7, fun _ ea hea => ?_, fun z => Bool.noConfusion z⟩
      have sF := z0.trans s15'
      refine ⟨_, rfl, rfl, rfl, xd, _, _, rfl, hdd, rfl, _, rfl, rfl, rfl, xd, _, _, rfl, hdd, rfl, by show 3 ≤ sizeLine; decide, fun t ht => ?_⟩
      exact ⟨_, rfl, (q1 sx ix he t _ upd_same (fresh sF ht) (sF.trans (same_upd ht)))⟩
end
/-! ### copies of parts, their lists of atoms open -/
/-- a copied part: its tuple, its list of atoms (c, items ys), its head; no thing of it lies in B -/
def CpAt (B : Addr → Prop) (H : Hp) (o : Addr × Addr × V × List V) (d : PyData) : Prop := ∃ hs as, d = .tuple [.tuple hs, .list as] ∧ H o.1 = some (.tup [o.2.2.1, .ref o.2.1]) ∧ H o.2.1 = some (.lst o.2.2.2) ∧ ¬ B o.1 ∧ DA B H 4 o.2.2.1 (.tuple hs) ∧ Paired (DA B H 3) o.2.2.2 as
/-- the places that may change: C, and the copied lists -/
def Opn (C : Addr → Prop) (os : List (Addr × Addr × V × List V)) (x : Addr) : Prop := C x ∨ x ∈ os.map (·.2.1)
theorem CpAt.same {B : Addr → Prop} {H H' : Hp} {o : Addr × Addr × V × List V} {d : PyData} (h : CpAt B H o d) (s : Same H H') : CpAt B H' o d := by
  obtain ⟨hs, as, e, h1, h2, h3, h4, h5⟩ := h
  exact ⟨hs, as, e, s _ _ h1, s _ _ h2, h3, h4.same s, paired_imp (fun _ _ h => h.same s) h5⟩
theorem CpAt.weak {B B' : Addr → Prop} {H : Hp} {o : Addr × Addr × V × List V} {d : PyData} (k : ∀ x, B' x → B x) (h : CpAt B H o d) : CpAt B' H o d := by
  obtain ⟨hs, as, e, h1, h2, h3, h4, h5⟩ := h
  exact ⟨hs, as, e, h1, h2, fun z => h3 (k _ z), h4.weak k, paired_imp (fun _ _ h => h.weak k) h5⟩
theorem CpAt.fresh {B : Addr → Prop} {H : Hp} {o : Addr × Addr × V × List V} {d : PyData} {c : Addr} (hc : H c = none) (h : CpAt B H o d) : CpAt (fun x => B x ∨ x = c) H o d := by
  obtain ⟨hs, as, e, h1, h2, h3, h4, h5⟩ := h
  exact ⟨hs, as, e, h1, h2, (fun z => z.elim h3 fun z => by rw [z, hc] at h1; cases h1), h4.fresh hc, paired_imp (fun _ _ h => h.fresh hc) h5⟩
/-- a copied part is a thing, once its list is not to change -/
theorem CpAt.done {B : Addr → Prop} {H : Hp} {o : Addr × Addr × V × List V} {d : PyData} (h : CpAt B H o d) {C : Addr → Prop} (k : ∀ x, C x → B x) (nc : ¬ C o.2.1) (l : ∀ hs as, d = .tuple [.tuple hs, .list as] → as.length ≤ 5000) : DA C H 5 (.ref o.1) d := by
  obtain ⟨hs, as, rfl, h1, h2, h3, h4, h5⟩ := h
  have e := Paired.length h5
  have la := l hs as rfl
  exact .tup (fun z => h3 (k _ z)) h1 (by show 2 ≤ 5000; decide) (.cons (h4.weak k) (.cons (.lst nc h2 (by omega) (paired_imp (fun _ _ h => h.weak k) h5)) .nil))
/-- what stands at places that are taken keeps off all places that were free -/
theorem DA.avoid {C B : Addr → Prop} {H : Hp} (k : ∀ x, B x → C x ∨ H x = none) : ∀ {n : Nat} {v : V} {d : PyData}, DA C H n v d → DA B H n v d
  | 0, _, _, h => h
  | n + 1, _, _, h => by
    rcases h with h | ⟨a, xs, ds, rfl, rfl, hc, e, l, p⟩ | ⟨a, xs, ds, rfl, rfl, hc, e, l, p⟩
    · exact .inl h
    · exact .tup (fun z => (k _ z).elim hc fun z => by rw [z] at e; cases e) e l (paired_imp (fun _ _ h => DA.avoid k h) p)
    · exact .lst (fun z => (k _ z).elim hc fun z => by rw [z] at e; cases e) e l (paired_imp (fun _ _ h => DA.avoid k h) p)
/-! ### the row of copied parts, as the law changes it -/
theorem paired_impm {α β : Type} {F G : α → β → Prop} : ∀ {xs : List α} {ys : List β}, (∀ a ∈ xs, ∀ b, F a b → G a b) → Paired F xs ys → Paired G xs ys
  | _, _, _, .nil => .nil
  | _, _, h, .cons r t => .cons (h _ List.mem_cons_self _ r) (paired_impm (fun a ha => h a (List.mem_cons_of_mem _ ha)) t)
theorem paired_set {α β : Type} {F G : α → β → Prop} : ∀ {xs : List α} {ys : List β} {k : Nat} {x : α} {y : β}, Paired F xs ys → (∀ i u w, i ≠ k → xs[i]? = some u → F u w → G u w) → G x y → Paired G (xs.set k x) (ys.set k y)
  | _, _, _, _, _, .nil, _, _ => .nil
  | _, _, 0, _, _, .cons r t, h, g => .cons g (paired_imp2 t fun i u w e f => h (i + 1) u w (by omega) (by simpa using e) f)
  | _, _, k + 1, _, _, .cons r t, h, g => .cons (h 0 _ _ (by omega) rfl r) (paired_set t (fun i u w n e f => h (i + 1) u w (by omega) (by simpa using e) f) g)
where paired_imp2 {α β : Type} {F G : α → β → Prop} : ∀ {xs : List α} {ys : List β}, Paired F xs ys → (∀ i u w, xs[i]? = some u → F u w → G u w) → Paired G xs ys
  | _, _, .nil, _ => .nil
  | _, _, .cons r t, h => .cons (h 0 _ _ rfl r) (paired_imp2 t fun i u w e f => h (i + 1) u w (by simpa using e) f)
theorem paired_erase {α β : Type} {F : α → β → Prop} : ∀ {xs : List α} {ys : List β} (k : Nat), Paired F xs ys → Paired F (xs.eraseIdx k) (ys.eraseIdx k)
  | _, _, _, .nil => .nil
  | _, _, 0, .cons r t => t
  | _, _, k + 1, .cons r t => .cons r (paired_erase k t)
theorem paired_cut {α : Type} {F : V → α → Prop} {xs : List V} {ys : List α} (lo hi : Option Int) (h : Paired F xs ys) : ∃ zs, Paired F (cutV xs lo hi) zs ∧ (∀ z ∈ zs, z ∈ ys) ∧ zs.length ≤ ys.length :=
  ⟨_, paired_take _ (paired_drop _ h), fun z hz => List.mem_of_mem_drop (List.mem_of_mem_take hz), by rw [List.length_take, List.length_drop]; omega⟩
/-- a part that the lines can tell, of at most m atoms -/
def PtB (m : Nat) (d : PyData) : Prop := ∃ hs as, d = .tuple [.tuple hs, .list as] ∧ hs.length ≤ 12 ∧ as.length ≤ m ∧ (∀ t ∈ hs, termD t = true) ∧ ∀ x ∈ as, AtOk x
theorem PtB.ok {m : Nat} {d : PyData} (h : PtB m d) (l : m ≤ 20) : PtOk d := by
  obtain ⟨hs, as, e, l1, l2, ht, ha⟩ := h
  exact ⟨hs, as, e, l1, by omega, ht, ha⟩
theorem PtB.up {m n : Nat} {d : PyData} (h : PtB m d) (l : m ≤ n) : PtB n d := by
  obtain ⟨hs, as, e, l1, l2, ht, ha⟩ := h
  exact ⟨hs, as, e, l1, by omega, ht, ha⟩
abbrev OB : Type := Addr × Addr × V × List V
def CpSt (C : Addr → Prop) (D : Addr) (m : Nat) (H : Hp) (os : List OB) (ds : List PyData) : Prop :=
  H D = some (.lst (os.map fun o => V.ref o.1)) ∧ Paired (CpAt (fun x => Opn C os x ∨ x = D) H) os ds ∧ (os.map (·.2.1)).Nodup ∧ (∀ o ∈ os, o.2.1 ≠ D ∧ ¬ C o.2.1) ∧ ¬ C D ∧ ∀ x ∈ ds, PtB m x
theorem CpSt.up {C : Addr → Prop} {D : Addr} {m n : Nat} {H : Hp} {os : List OB} {ds : List PyData} (h : CpSt C D m H os ds) (l : m ≤ n) : CpSt C D n H os ds := by
  obtain ⟨h1, h2, h3, h4, h5, h6⟩ := h
  exact ⟨h1, h2, h3, h4, h5, fun x hx => (h6 x hx).up l⟩
theorem CpSt.chs {C : Addr → Prop} {D p : Addr} {m : Nat} {H H' : Hp} {os : List OB} {ds : List PyData} (h : CpSt C D m H os ds) (c : Chs p H H') (hc : C p) : CpSt C D m H' os ds := by
  obtain ⟨h1, h2, h3, h4, h5, h6⟩ := h
  refine ⟨c.at (fun e => h5 (e ▸ hc)) h1, paired_impm (fun o ho d hd => ?_) h2, h3, h4, h5, h6⟩
  obtain ⟨hs, as, e, e1, e2, nb, hh, pa⟩ := hd
  have np : ∀ x, ¬ (Opn C os x ∨ x = D) → x ≠ p := fun x n e => n (.inl (.inl (e ▸ hc)))
  exact ⟨hs, as, e, c.at (np _ nb) e1, c.at (fun e => (h4 o ho).2 (e ▸ hc)) e2, nb, hh.chs c (.inl (.inl hc)), paired_imp (fun _ _ h => DA.chs h c (.inl (.inl hc))) pa⟩
theorem CpSt.same {C : Addr → Prop} {D : Addr} {m : Nat} {H H' : Hp} {os : List OB} {ds : List PyData} (h : CpSt C D m H os ds) (s : Same H H') : CpSt C D m H' os ds := by
  obtain ⟨h1, h2, h3, h4, h5, h6⟩ := h
  exact ⟨s _ _ h1, paired_imp (fun _ _ h => CpAt.same h s) h2, h3, h4, h5, h6⟩
theorem set_same {os : List OB} {k : Nat} {t c : Addr} {hd : V} {zs ws : List V} (e : os[k]? = some (t, c, hd, zs)) : (os.set k (t, c, hd, ws)).map (·.2.1) = os.map (·.2.1) ∧ (os.set k (t, c, hd, ws)).map (fun o => V.ref o.1) = os.map fun o => V.ref o.1 := by
  obtain ⟨hk, e'⟩ := List.getElem?_eq_some_iff.mp e
  constructor
  · rw [List.map_set]
    refine List.ext_getElem? fun i => ?_
    rw [List.getElem?_set]
    split
    · rename_i hi
      subst hi
      rw [List.length_map, if_pos hk, List.getElem?_map, e]
      rfl
    · rfl
  · rw [List.map_set]
    refine List.ext_getElem? fun i => ?_
    rw [List.getElem?_set]
    split
    · rename_i hi
      subst hi
      rw [List.length_map, if_pos hk, List.getElem?_map, e]
      rfl
    · rfl
/-- one open list is written anew -/
theorem CpSt.set {C : Addr → Prop} {D : Addr} {m n : Nat} {H : Hp} {os : List OB} {ds : List PyData} (h : CpSt C D m H os ds) {k : Nat} {t c : Addr} {hd : V} {zs ws : List V} {hs as bs : List PyData} (e : os[k]? = some (t, c, hd, zs)) (ed : ds[k]? = some (.tuple [.tuple hs, .list as])) (l : m ≤ n) (lb : bs.length ≤ n) (hb : ∀ x ∈ bs, AtOk x) (pw : Paired (DA (fun x => Opn C os x ∨ x = D) H 3) ws bs) :
    CpSt C D n (upd H c (.lst ws)) (os.set k (t, c, hd, ws)) (ds.set k (.tuple [.tuple hs, .list bs])) := by
  obtain ⟨h1, h2, h3, h4, h5, h6⟩ := h
  obtain ⟨s1, s2⟩ := set_same (ws := ws) e
  have hm := List.mem_of_getElem? e
  have hB : Opn C os c := .inr (List.mem_map.mpr ⟨_, hm, rfl⟩)
  have eB : ∀ x, Opn C (os.set k (t, c, hd, ws)) x ↔ Opn C os x := fun x => by
    unfold Opn
    rw [s1]
  have kp : ∀ b o', ¬ (Opn C os b ∨ b = D) → H b = some o' → upd H c (.lst ws) b = some o' := fun b o' nb e' => by
    rw [upd_ne (fun z : b = c => nb (.inl (by rw [z]; exact hB)))]
    exact e'
  obtain ⟨d0, hd0, hAt⟩ := paired_at h2 e
  rw [ed] at hd0
  cases hd0
  obtain ⟨hs', as', ee, a1, a2, a3, a4, a5⟩ := hAt
  cases ee
  refine ⟨?_, ?_, ?_, ?_, h5, ?_⟩
  · rw [upd_ne (h4 _ hm).1.symm, s2]
    exact h1
  · have hw : ∀ x, (Opn C (os.set k (t, c, hd, ws)) x ∨ x = D) → (Opn C os x ∨ x = D) := fun x hx => hx.imp_left (eB x).mp
    refine paired_set h2 (fun i u w ni eu f => ?_) ?_
    · obtain ⟨hs2, as2, e2, b1, b2, b3, b4, b5⟩ := f
      have nc : u.2.1 ≠ c := fun z => by
        have li : i < (os.map (·.2.1)).length := by rw [List.length_map]; exact (List.getElem?_eq_some_iff.mp eu).1
        exact ni ((List.getElem?_inj li h3).mp (by rw [List.getElem?_map, List.getElem?_map, eu, e]; exact congrArg some z))
      exact ⟨hs2, as2, e2, kp _ _ b3 b1, by rw [upd_ne nc]; exact b2, fun z => b3 (hw _ z), (b4.keep kp).weak hw, paired_imp (fun _ _ h => (h.keep kp).weak hw) b5⟩
    · exact ⟨hs, bs, rfl, kp _ _ a3 a1, upd_same, fun z => a3 (hw _ z), (a4.keep kp).weak hw, paired_imp (fun _ _ h => (h.keep kp).weak hw) pw⟩
  · rw [s1]
    exact h3
  · intro o ho
    rcases List.mem_or_eq_of_mem_set ho with ho | rfl
    · exact h4 o ho
    · exact h4 (t, c, hd, zs) hm
  · intro x hx
    rcases List.mem_or_eq_of_mem_set hx with hx | rfl
    · exact (h6 x hx).up l
    · obtain ⟨hs2, as2, e2, l1, l2, ht, _⟩ := h6 _ (List.mem_of_getElem? ed)
      cases e2
      exact ⟨hs, bs, rfl, l1, lb, ht, hb⟩
/-- the copied parts as things -/
theorem CpSt.things {C : Addr → Prop} {D : Addr} {m : Nat} {H : Hp} {os : List OB} {ds : List PyData} (h : CpSt C D m H os ds) (l : m ≤ 5000) : Paired (DA C H 5) (os.map fun o => V.ref o.1) ds := by
  obtain ⟨h1, h2, h3, h4, h5, h6⟩ := h
  have hp : Paired (fun o d => DA C H 5 (V.ref o.1) d) os ds := paired_impm2 h2 fun o ho d hdm hd => hd.done (fun x hx => .inl (.inl hx)) (h4 o ho).2 fun hs as e => by
    obtain ⟨hs2, as2, e2, _, l2, _⟩ := h6 d hdm
    rw [e2] at e
    cases e
    omega
  clear h1 h2 h3 h4 h5 h6
  induction hp with
  | nil => exact .nil
  | cons r t ih => exact .cons r ih
where paired_impm2 {α β : Type} {F G : α → β → Prop} : ∀ {xs : List α} {ys : List β}, Paired F xs ys → (∀ a ∈ xs, ∀ b ∈ ys, F a b → G a b) → Paired G xs ys
  | _, _, .nil, _ => .nil
  | _, _, .cons r t, h => .cons (h _ List.mem_cons_self _ List.mem_cons_self r) (paired_impm2 t fun a ha b hb => h a (List.mem_cons_of_mem _ ha) b (List.mem_cons_of_mem _ hb))
/-- what stands at k -/
theorem CpSt.at {C : Addr → Prop} {D : Addr} {m : Nat} {H : Hp} {os : List OB} {ds : List PyData} (h : CpSt C D m H os ds) {k : Nat} (hk : k < ds.length) : ∃ t c hd zs hs as, os[k]? = some (t, c, hd, zs) ∧ ds[k]? = some (.tuple [.tuple hs, .list as]) ∧ H t = some (.tup [hd, .ref c]) ∧ H c = some (.lst zs) ∧ DA (fun x => Opn C os x ∨ x = D) H 4 hd (.tuple hs) ∧ Paired (DA (fun x => Opn C os x ∨ x = D) H 3) zs as ∧ as.length ≤ m ∧ (∀ x ∈ as, AtOk x) ∧ hs.length ≤ 12 ∧ (∀ t ∈ hs, termD t = true) ∧ ¬ C c ∧ c ≠ D := by
  obtain ⟨h1, h2, h3, h4, h5, h6⟩ := h
  have hl := Paired.length h2
  obtain ⟨d, hd, f⟩ := paired_at h2 (List.getElem?_eq_getElem (show k < os.length by omega))
  obtain ⟨hs, as, e, a1, a2, a3, a4, a5⟩ := f
  subst e
  obtain ⟨hs2, as2, e2, l1, l2, ht, ha⟩ := h6 _ (List.mem_of_getElem? hd)
  cases e2
  have hm := List.getElem_mem (show k < os.length by omega)
  exact ⟨_, _, _, _, hs, as, List.getElem?_eq_getElem (by omega), hd, a1, a2, a4, a5, l2, ha, l1, ht, (h4 _ hm).2, (h4 _ hm).1⟩
theorem eqv_nil5 {ds : List PyData} : PyData.eqv (.list ds) (.list []) = ds.isEmpty := by
  cases ds <;> simp [PyData.eqv, PyData.eqvAll]
theorem CpAt.keepD {B : Addr → Prop} {H H' : Hp} {o : Addr × Addr × V × List V} {d : PyData} {D : Addr} (h : CpAt B H o d) (hB : B D) (hc : o.2.1 ≠ D) (k : ∀ b o', b ≠ D → H b = some o' → H' b = some o') : CpAt B H' o d := by
  obtain ⟨hs, as, e, h1, h2, h3, h4, h5⟩ := h
  have kp : ∀ b o', ¬ B b → H b = some o' → H' b = some o' := fun b o' nb e => k b o' (fun z => nb (z ▸ hB)) e
  exact ⟨hs, as, e, kp _ _ h3 h1, k _ _ hc h2, h3, h4.keep kp, paired_imp (fun _ _ h => h.keep kp) h5⟩
section
variable {P : Program} {w : World} {K : PySem.W.Frag} {mg : Str → Option Value} {base : Heap} {a : Nat → Addr} {d : Nat → FuncData}
def spLChg : Sp := fun vs H Q _ => ∃ (C : Addr → Prop) (p : Addr) (xp : V) (ds : List PyData), vs = [.ref p, xp] ∧ C p ∧ Cell H p ∧ Occ C H ∧ DA C H 6 xp (.list ds) ∧ ds.length ≤ 7 ∧ (∀ x ∈ ds, PtB 5 x) ∧ ∀ l ds' H', DA C H' 6 (.ref l) (.list ds') → ds'.length ≤ 15 → (∀ x ∈ ds', PtOk x) → Chs p H H' → Q (.ref l) H'
theorem ok_lchg (T : Txt K mg a d) : FnOk P w K mg base CX0 4 (a 82) (d 82) ["_law_state_here", "_law_parts"] spLChg := by
  have G74 : FnOk P w K mg base CX0 1 (a 74) (d 74) ["_law_state_here", "_law_many"] spPick2 := ok_pick2 T
  refine T.F82.ok sc__law_changed (fun vs H Q E h => ?_) (fun cdv A outer s H vs Q E hr h => ?_)
  · obtain ⟨C, p, xp, ds, rfl, _⟩ := h
    rfl
  · obtain ⟨C, p, xp, ds, rfl, hc, hP, hO, hd, l7, hok, q⟩ := h
    have hu := hu_of hr
    refine ⟨_, (pss_cons (ps_setLc (i := 2) (own := [("_law_head", 6), ("_law_atoms", 7)]) rfl sc__law_changed.nd rfl rfl (sw_true rfl rfl rfl (by decide +kernel)) (pi_list (pv 1)) (blkOk_by (N := ["_law_state_here", "_law_parts", "_law_copy", "_law_kind", "_law_at", "_law_other", "_law_head", "_law_atoms", "_law_joined"]) (sc := defScope s__law_changed) (by decide +kernel)) (fun _ _ _ _ _ => pg_tupK (K := K) 2 rfl (by rfl) (pgs_cons (pg_name (i := 6) sc__law_changed.nd rfl (.inl rfl)) (pgs_cons (pg_name (i := 7) sc__law_changed.nd rfl (.inl rfl)) pgs_nil))) (fun _ _ _ _ _ => pts_nil) (fun _ _ _ _ _ => (pe_tup (pa_cons (pv 6) (pa_cons (pe_callTy (T := "list") (r := Evl.rListS K)  call_list_of (by rfl) T.z_list (by decide +kernel) (pa_cons (pv 7) pa_nil)) pa_nil)))))
  (pss_cons (ps_set (i := 3) sc__law_changed.nd rfl (.inl rfl) (pe_call G74 (hr.mono (by decide)) (by rfl) T.g74 T.F74.kp T.b74 .nil pass0 (pa_cons (pv 0) (pa_cons pe_int pa_nil))))
  (pss_cons (ps_if (pt_cmpR (op_eqD (hu_of64 hr)) (pv 1) (pe_lst pa_nil) (nomark _))
    (pss_one (ps_ret (pv 2)))
    pss_nil)
  (pss_cons (ps_set (i := 4) sc__law_changed.nd rfl (.inl rfl) (pe_call G74 (hr.mono (by decide)) (by rfl) T.g74 T.F74.kp T.b74 .nil pass0 (pa_cons (pv 0) (pa_cons (pe_callB (id := "len")  call_len_seq (by rfl) T.z_len (by decide +kernel) (pa_cons (pv 2) pa_nil)) pa_nil))))
  (pss_cons (ps_set (i := 5) sc__law_changed.nd rfl (.inl rfl) (pe_call G74 (hr.mono (by decide)) (by rfl) T.g74 T.F74.kp T.b74 .nil pass0 (pa_cons (pv 0) (pa_cons (pe_callB (id := "len")  call_len_seq (by rfl) T.z_len (by decide +kernel) (pa_cons (pv 2) pa_nil)) pa_nil))))
  (pss_cons (ps_asg (pe_ix ix_list (pv 2) (pv 4) (fun _ _ => rfl)) (pg_tup rfl (pgs_cons (pg_name (i := 6) sc__law_changed.nd rfl (.inl rfl)) (pgs_cons (pg_name (i := 7) sc__law_changed.nd rfl (.inl rfl)) pgs_nil))))
  (pss_cons (ps_if (pt_cmpR op_eq (pv 3) pe_int (nomark _))
    (pss_one (ps_ret (pe_op op_cat (pe_slice sl_list (pv 2) po_none (po_some (pv 4))) (pe_slice sl_list (pv 2) (po_some (pe_op op_add (pv 4) pe_int)) po_none))))
    pss_nil)
  (pss_cons (ps_if (pt_cmpR op_eq (pv 3) pe_int (nomark _))
    (pss_one (ps_ret (pe_op op_cat (pe_op op_cat (pe_slice sl_list (pv 2) po_none (po_some (pv 4))) (pe_lst (pa_cons (pe_tup (pa_cons (pe_ix ix_tup (pe_ix ix_list (pv 2) (pv 5) (fun _ _ => rfl)) pe_int (fun _ _ => rfl)) (pa_cons (pe_lst pa_nil) pa_nil))) pa_nil))) (pe_slice sl_list (pv 2) (po_some (pv 4)) po_none))))
    pss_nil)
  (Evl.pss_cut (ps_if (PW.pt (pw_and (pt_cmpR op_eq (pv 3) pe_int (nomark _)) (pw_and1 (pt_cmpR (op_neD (hu_of64 hr)) (pv 7) (pe_lst pa_nil) (nomark _)))))
    (pss_one (ps_expr (pe_bm PySem.F.plainAttrs_list PySem.F.slot_list_pop PySem.F.type_list_pop mt_popAt (pv 7) (pa_cons (pe_call G74 (hr.mono (by decide)) (by rfl) T.g74 T.F74.kp T.b74 .nil pass0 (pa_cons (pv 0) (pa_cons (pe_callB (id := "len")  call_len_seq (by rfl) T.z_len (by decide +kernel) (pa_cons (pv 7) pa_nil)) pa_nil))) pa_nil))))
    pss_nil)
  (Evl.pss_cut (ps_if (PW.pt (pw_and (pt_cmpR op_eq (pv 3) pe_int (nomark _)) (pw_and1 (pt_cmpR (op_neD (hu_of64 hr)) (pv 7) (pe_lst pa_nil) (nomark _)))))
    (pss_one (ps_expr (pe_bm PySem.F.plainAttrs_list PySem.F.slot_list_append PySem.F.type_list_append mt_append (pe_ix ix_tup (pe_ix ix_list (pv 2) (pv 5) (fun _ _ => rfl)) pe_int (fun _ _ => rfl)) (pa_cons (pe_ix ix_list (pv 7) (pe_call G74 (hr.mono (by decide)) (by rfl) T.g74 T.F74.kp T.b74 .nil pass0 (pa_cons (pv 0) (pa_cons (pe_callB (id := "len")  call_len_seq (by rfl) T.z_len (by decide +kernel) (pa_cons (pv 7) pa_nil)) pa_nil))) (fun _ _ => rfl)) pa_nil))))
    pss_nil)
  (Evl.pss_cut (ps_if (PW.pt (pw_and (pt_cmpR op_eq (pv 3) pe_int (nomark _)) (pw_and1 (pt_cmpR op_gt (pv 4) pe_int (nomark _)))))
    (pss_cons (ps_set (i := 8) sc__law_changed.nd rfl (.inl rfl) (pe_op op_cat (pe_ix ix_tup (pe_ix ix_list (pv 2) (pe_op op_sub (pv 4) pe_int) (fun _ _ => rfl)) pe_int (fun _ _ => rfl)) (pv 7)))
      (pss_one (ps_ret (pe_op op_cat (pe_op op_cat (pe_slice sl_list (pv 2) po_none (po_some (pe_op op_sub (pv 4) pe_int))) (pe_lst (pa_cons (pe_tup (pa_cons (pe_ix ix_tup (pe_ix ix_list (pv 2) (pe_op op_sub (pv 4) pe_int) (fun _ _ => rfl)) pe_int (fun _ _ => rfl)) (pa_cons (pv 8) pa_nil))) pa_nil))) (pe_slice sl_list (pv 2) (po_some (pe_op op_add (pv 4) pe_int)) po_none)))))
    pss_nil)
  (pss_one (ps_ret (pv 2)))))))))))))), ?_⟩
    obtain ⟨l, xs, k, ek, rfl, nl, hl, l5, pr⟩ := hd.asLst
    cases ek
    have hlen := Paired.length pr
    refine ⟨_, rfl, l, rfl, ⟨_, .of hl⟩, fun D hD => ?_⟩
    have prD := paired_imp (fun _ _ h => DA.fresh hD h) pr
    refine lc_list (K := K) (a := l) (xs := xs) (fun i H' => ∃ os : List (Addr × Addr × V × List V), H' D = some (.lst (os.map fun o => V.ref o.1)) ∧ Paired (CpAt (fun x => Opn C os x ∨ x = D) H') os (ds.take i) ∧ (os.map (·.2.1)).Nodup ∧ (∀ o ∈ os, o.2.1 ≠ D ∧ H o.2.1 = none) ∧ Same H H') ⟨[], upd_same, .nil, List.nodup_nil, (fun o h => nomatch h), same_upd hD⟩ (fun i H' _ hp => ?_) (fun i y H' hy hp => ?_) (fun H4 hp => ?_)
    · obtain ⟨_, _, _, _, _, s⟩ := hp
      exact .of (s _ _ hl)
    · obtain ⟨os, y1, y2, nd, nc, s⟩ := hp
      obtain ⟨e, he, hye⟩ := paired_at prD hy
      have li : i < xs.length := (List.getElem?_eq_some_iff.mp hy).1
      obtain ⟨hs, as, rfl, _⟩ := hok e (List.mem_of_getElem? he)
      obtain ⟨b, us, k', ek', rfl, nb, hb, _, pb⟩ := hye.asTup
      cases ek'
      match us, pb with
      | [u, z], .cons hu2 (.cons hz .nil) =>
      obtain ⟨c, zs, k2, ek2, rfl, _, hcz, c5, pc⟩ := hz.asLst
      cases ek2
      refine ⟨b, _, rfl, .of (s _ _ hb), rfl, _, _, rfl, _, _, rfl, rfl, rfl, ?_⟩
      refine ⟨_, rfl, _, rfl, c, zs, rfl, .inl (.of (s _ _ hcz)), fun L hL => ⟨by show 2 ≤ sizeLine; decide, fun t ht => ?_⟩⟩
      have fr : ∀ {x}, H' x = none → H x = none := fun {x} e => by
        cases eH : H x with
        | none => rfl
        | some o => rw [s _ _ eH] at e; cases e
      have nLD : L ≠ D := (ne_of_none y1 hL).symm
      have sL := same_upd (o := .lst zs) hL
      have st := same_upd (o := .tup [u, .ref L]) ht
      have eL := st _ _ (upd_same (H := H') (a := L) (o := .lst zs))
      have eT : upd (upd H' L (.lst zs)) t (.tup [u, .ref L]) t = some (.tup [u, .ref L]) := upd_same
      have s5 := sL.trans st
      have htH : H t = none := fr (by
        cases e : H' t with
        | none => rfl
        | some o => rw [sL _ _ e] at ht; cases ht)
      have ntL : t ≠ L := fun e => by rw [e, upd_same] at ht; cases ht
      have ntD : t ≠ D := fun e => by rw [e, sL _ _ y1] at ht; cases ht
      have hnL : ∀ o ∈ os, o.2.1 ≠ L ∧ o.2.1 ≠ t := fun o ho => by
        obtain ⟨d2, _, hs2, as2, _, _, h2, _⟩ := paired_any y2 ho
        exact ⟨ne_of_none h2 hL, ne_of_none (sL _ _ h2) ht⟩
      have sp6 : ∀ x, (Opn C (os ++ [(t, L, u, zs)]) x ∨ x = D) → (Opn C os x ∨ x = D) ∨ x = L := fun x h => by
        rcases h with (h | h) | h
        · exact .inl (.inl (.inl h))
        · rw [List.map_append] at h
          rcases List.mem_append.mp h with h | h
          · exact .inl (.inl (.inr h))
          · exact .inr (List.mem_singleton.mp h)
        · exact .inl (.inr h)
      have k6 : ∀ x, (Opn C (os ++ [(t, L, u, zs)]) x ∨ x = D) → (C x ∨ x = D) ∨ H x = none := fun x h => by
        rcases sp6 x h with ((h | h) | h) | h
        · exact .inl (.inl h)
        · obtain ⟨o, ho, rfl⟩ := List.mem_map.mp h
          exact .inr (nc o ho).2
        · exact .inl (.inr h)
        · rw [h]
          exact .inr (fr hL)
      have hu3 := ((DA.avoid k6 hu2).same s).same s5
      have pc3 := paired_imp (fun _ _ h => ((DA.avoid k6 h).same s).same s5) pc
      have nBt : ¬ (Opn C (os ++ [(t, L, u, zs)]) t ∨ t = D) := fun h => by
        rcases sp6 t h with ((h | h) | h) | h
        · exact hO.new htH h
        · obtain ⟨o, ho, e⟩ := List.mem_map.mp h
          exact (hnL o ho).2 e
        · exact ntD h
        · exact ntL h
      have old := paired_imp (fun _ _ h => ((CpAt.fresh hL h).weak sp6).same s5) y2
      have new : CpAt (fun x => Opn C (os ++ [(t, L, u, zs)]) x ∨ x = D) _ (t, L, u, zs) (.tuple [.tuple hs, .list as]) := ⟨hs, as, rfl, eT, eL, nBt, hu3, pc3⟩
      have y1' := s5 _ _ y1
      have sH5 := s.trans s5
      generalize upd (upd H' L (.lst zs)) t (.tup [u, .ref L]) = H5 at old new y1' sH5 ⊢
      have kD : ∀ b o', b ≠ D → H5 b = some o' → upd H5 D (.lst ((os.map fun o => V.ref o.1) ++ [.ref t])) b = some o' := fun b o' n e => by
        rw [upd_ne n]
        exact e
      have los := Paired.length y2
      rw [List.length_take] at los
      refine ⟨_, y1', by rw [List.length_map]; exact Nat.lt_of_le_of_lt (by omega : _ ≤ 5000) (by decide), os ++ [(t, L, u, zs)], ?_, ?_, ?_, ?_, fun b o e => ?_⟩
      · rw [List.map_append]
        exact upd_same
      · rw [take_snoc he]
        have all := paired_app old (.cons new .nil)
        have nDD : ∀ o ∈ os ++ [(t, L, u, zs)], o.2.1 ≠ D := fun o ho => by
          rcases List.mem_append.mp ho with ho | ho
          · exact (nc o ho).1
          · rw [List.mem_singleton.mp ho]
            exact nLD
        exact paired_impm (fun o ho _ h => h.keepD (.inr rfl) (nDD o ho) kD) all
      · rw [List.map_append]
        exact List.nodup_append.mpr ⟨nd, by simp, fun x hx y hy e => by
          obtain ⟨o, ho, rfl⟩ := List.mem_map.mp hx
          exact (hnL o ho).1 (e.trans (List.mem_singleton.mp hy))⟩
      · intro o ho
        rcases List.mem_append.mp ho with ho | ho
        · exact nc o ho
        · rw [List.mem_singleton.mp ho]
          exact ⟨nLD, fr hL⟩
      · rw [upd_ne (ne_of_none e hD)]
        exact sH5 _ _ e
    obtain ⟨os, y1, y2, nd, nc, s4⟩ := hp
    rw [hlen, List.take_length] at y2
    have st4 : CpSt C D 5 H4 os ds := ⟨y1, y2, nd, fun o ho => ⟨(nc o ho).1, hO.new (nc o ho).2⟩, hO.new hD, hok⟩
    have c4 : Chs p H H4 := ⟨hP.same s4, fun b o _ e => s4 _ _ e⟩
    have los := Paired.length y2
    have fin : ∀ {G : Hp} {L : Addr} {zs : List V} {es : List PyData}, G L = some (.lst zs) → ¬ C L → Paired (DA C G 5) zs es → es.length ≤ 15 → (∀ x ∈ es, PtOk x) → Chs p H G → Q (.ref L) G := fun {G L zs es} e n pz l h c => q L es G (.lst n e (by have := Paired.length pz; omega) pz) l h c
    have finD : ∀ {G : Hp} {m : Nat} {os2 : List OB} {es : List PyData}, CpSt C D m G os2 es → m ≤ 20 → es.length ≤ 15 → Chs p H G → Q (.ref D) G := fun {G m os2 es} h l l2 c => fin h.1 h.2.2.2.2.1 (h.things (by omega)) l2 (fun x hx => (h.2.2.2.2.2 x hx).ok l) c
    clear y1 y2 prD pr
    refine ⟨_, rfl, p, 5, rfl, c4.1, by decide, by decide, fun kd H5 k0 k1 C5' => ?_⟩
    have C5 := c4.trans C5'
    have st5 := st4.chs C5' hc
    have hd5 := (hd.same s4).chs C5' hc
    have nCD := st5.2.2.2.2.1
    clear st4 s4 c4
    refine ⟨_, rfl, Nat.zero_le _, fun E0 hE0 => ?_⟩
    have zE := same_upd (o := .lst []) hE0
    have st6 := st5.same zE
    have hd6 := hd5.same zE
    have C6 := C5.sm zE
    have hE6 : upd H5 E0 (.lst []) E0 = some (.lst []) := upd_same
    generalize upd H5 E0 (.lst []) = H6 at st6 hd6 C6 hE6 ⊢
    clear zE st5 hd5 C5
    refine ⟨.list ds, .list [], hd6.dp, .lst (.of hE6) .nil, hd6.shaped (by decide), rfl, _, rfl, ?_⟩
    rw [eqv_nil5]
    by_cases hne : ds = []
    · rw [hne]
      refine ifT ⟨_, rfl, ?_⟩
      exact finD st6 (by decide) (by omega) C6
    have hpos : 0 < ds.length := List.length_pos_iff.mpr hne
    rw [show ds.isEmpty = false from by cases ds with | nil => exact absurd rfl hne | cons _ _ => rfl]
    refine ifF ?_
    have lO : (os.map fun o => V.ref o.1).length = ds.length := by rw [List.length_map, los]
    refine ⟨_, rfl, _, rfl, D, _, rfl, .inl (.of st6.1), p, (((os.map fun o => V.ref o.1).length : Nat) : Int), rfl, C6.1, by rw [lO]; omega, by rw [lO, Int.natAbs_natCast]; exact Nat.lt_of_le_of_lt l7 (by decide), fun at_ H7 a0 a1 C7' => ?_⟩
    have st7 := st6.chs C7' hc
    have C7 := C6.trans C7'
    refine ⟨_, rfl, _, rfl, D, _, rfl, .inl (.of st7.1), p, (((os.map fun o => V.ref o.1).length : Nat) : Int), rfl, C7.1, by rw [lO]; omega, by rw [lO, Int.natAbs_natCast]; exact Nat.lt_of_le_of_lt l7 (by decide), fun ot H8 o0 o1 C8' => ?_⟩
    have st8 := st7.chs C8' hc
    have C8 := C7.trans C8'
    rw [lO] at a1 o1
    clear st6 st7 C6 C7 C7' C8' hd6 hE6
    obtain ⟨an, rfl⟩ : ∃ n : Nat, at_ = (n : Int) := ⟨at_.toNat, by omega⟩
    obtain ⟨on, rfl⟩ : ∃ n : Nat, ot = (n : Int) := ⟨ot.toNat, by omega⟩
    have aL : an < ds.length := by omega
    have oL : on < ds.length := by omega
    obtain ⟨ta, ca, ha, za, hsa, asa, ea, eda, hta, hca, hha, pa, la, oka, lha, tha, nCca, ncD⟩ := st8.at aL
    have eV : ∀ {i : Nat} {o : OB}, os[i]? = some o → atI (os.map fun o => V.ref o.1) (i : Int) = some (.ref o.1) := fun {i o} e => atI_nat (by rw [List.getElem?_map, e]; rfl)
    refine ⟨_, rfl, _, rfl, _, _, _, _, rfl, rfl, .of st8.1, eV ea, ?_⟩
    refine ⟨ta, _, rfl, .of hta, rfl, _, _, rfl, _, _, rfl, rfl, ?_⟩
    have ths := st8.things (by decide)
    have nCn : ∀ {G : Hp} {x : Addr}, Chs p H G → G x = none → ¬ C x := fun c e => (hO.chs c).new e
    have cuts : ∀ (lo hi : Option Int) {G : Hp}, Same H8 G → (cutV (os.map fun o => V.ref o.1) lo hi).length ≤ 7 ∧ ∃ es, Paired (DA C G 5) (cutV (os.map fun o => V.ref o.1) lo hi) es ∧ es.length ≤ 7 ∧ ∀ x ∈ es, PtOk x := fun lo hi G sg => by
      obtain ⟨es, pz, hm, lz⟩ := paired_cut lo hi ths
      exact ⟨Nat.le_trans (Nat.le_of_eq (Paired.length pz)) (by omega), es, paired_imp (fun _ _ h => DA.same h sg) pz, by omega, fun x hx => (st8.2.2.2.2.2 x (hm x hx)).ok (by decide)⟩
    refine ⟨_, rfl, rfl, _, rfl, ite_eqI (fun c1 => ?_) (fun _ => ?_)⟩
    · refine ⟨_, rfl, _, rfl, _, rfl, D, _, rfl, .of st8.1, fun u1 f1 => ?_⟩
      have z1 := same_upd (o := .lst (cutV (os.map fun o => V.ref o.1) none (some (an : Int)))) f1
      have e1 : upd H8 u1 (.lst (cutV (os.map fun o => V.ref o.1) none (some (an : Int)))) u1 = some (.lst (cutV (os.map fun o => V.ref o.1) none (some (an : Int)))) := upd_same
      generalize upd H8 u1 (.lst (cutV (os.map fun o => V.ref o.1) none (some (an : Int)))) = G1 at z1 e1 ⊢
      refine ⟨_, rfl, _, rfl, _, _, rfl, rfl, _, rfl, D, _, rfl, .of (z1 _ _ st8.1), fun u2 f2 => ?_⟩
      have z2 := same_upd (o := .lst (cutV (os.map fun o => V.ref o.1) (some ((an : Int) + 1)) none)) f2
      have e2 : upd G1 u2 (.lst (cutV (os.map fun o => V.ref o.1) (some ((an : Int) + 1)) none)) u2 = some (.lst (cutV (os.map fun o => V.ref o.1) (some ((an : Int) + 1)) none)) := upd_same
      generalize upd G1 u2 (.lst (cutV (os.map fun o => V.ref o.1) (some ((an : Int) + 1)) none)) = G2 at z2 e2 ⊢
      have z12 := z1.trans z2
      obtain ⟨l1, es1, p1, n1, k1⟩ := cuts none (some (an : Int)) z12
      obtain ⟨l2, es2, p2, n2, k2⟩ := cuts (some ((an : Int) + 1)) none z12
      refine ⟨u1, u2, _, _, rfl, rfl, z2 _ _ e1, e2, small1000' (by omega), fun u3 f3 => ?_⟩
      have C9 := C8.sm z12
      exact fin upd_same (nCn C9 f3) (paired_imp (fun _ _ h => DA.same h (same_upd f3)) (paired_app p1 p2)) (by rw [List.length_append]; omega) (fun x hx => (List.mem_append.mp hx).elim (k1 x) (k2 x)) (C9.sm (same_upd f3))
    obtain ⟨to, co, ho, zo, hso, aso, eo, edo, hto, hco, hho, po, lo, oko, lho, tho, nCco, ncoD⟩ := st8.at oL
    have wk : ∀ x, C x → Opn C os x ∨ x = D := fun x hx => .inl (.inl hx)
    refine ⟨_, rfl, rfl, _, rfl, ite_eqI (fun c1 => ?_) (fun _ => ?_)⟩
    · refine ⟨_, rfl, _, rfl, _, rfl, D, _, rfl, .of st8.1, fun u1 f1 => ?_⟩
      have z1 := same_upd (o := .lst (cutV (os.map fun o => V.ref o.1) none (some (an : Int)))) f1
      have e1 : upd H8 u1 (.lst (cutV (os.map fun o => V.ref o.1) none (some (an : Int)))) u1 = some (.lst (cutV (os.map fun o => V.ref o.1) none (some (an : Int)))) := upd_same
      generalize upd H8 u1 (.lst (cutV (os.map fun o => V.ref o.1) none (some (an : Int)))) = G1 at z1 e1 ⊢
      refine ⟨_, rfl, _, rfl, _, _, _, _, rfl, rfl, .of (z1 _ _ st8.1), eV eo, _, _, _, _, rfl, rfl, .of (z1 _ _ hto), atI_nat (j := 0) rfl, Nat.zero_le _, fun u2 f2 => ?_⟩
      have z2 := same_upd (o := .lst []) f2
      have e2 : upd G1 u2 (.lst []) u2 = some (.lst []) := upd_same
      have nC2 := nCn (C8.sm z1) f2
      have e1 := z2 _ _ e1
      generalize upd G1 u2 (.lst []) = G2 at z2 e1 e2 ⊢
      refine ⟨by show 2 ≤ sizeLine; decide, fun u3 f3 => ?_⟩
      have z3 := same_upd (o := .tup [ho, .ref u2]) f3
      have e3 : upd G2 u3 (.tup [ho, .ref u2]) u3 = some (.tup [ho, .ref u2]) := upd_same
      have nC3 := nCn ((C8.sm z1).sm z2) f3
      have e1 := z3 _ _ e1
      have e2 := z3 _ _ e2
      generalize upd G2 u3 (.tup [ho, .ref u2]) = G3 at z3 e1 e2 e3 ⊢
      refine ⟨by show 1 ≤ sizeLine; decide, fun u4 f4 => ?_⟩
      have z4 := same_upd (o := .lst [.ref u3]) f4
      have e4 : upd G3 u4 (.lst [.ref u3]) u4 = some (.lst [.ref u3]) := upd_same
      have e1 := z4 _ _ e1
      have e2 := z4 _ _ e2
      have e3 := z4 _ _ e3
      have z14 := ((z1.trans z2).trans z3).trans z4
      generalize upd G3 u4 (.lst [.ref u3]) = G4 at z14 e1 e2 e3 e4 ⊢
      clear z1 z2 z3 z4 f1 f2 f3 f4
      obtain ⟨l1, es1, p1, n1, k1⟩ := cuts none (some (an : Int)) z14
      refine ⟨u1, u4, _, _, rfl, rfl, e1, e4, small1000' (by show _ + 1 ≤ 1000; omega), fun u5 f5 => ?_⟩
      have z5 := same_upd (o := .lst (cutV (os.map fun o => V.ref o.1) none (some (an : Int)) ++ [.ref u3])) f5
      have e5 : upd G4 u5 (.lst (cutV (os.map fun o => V.ref o.1) none (some (an : Int)) ++ [.ref u3])) u5 = some (.lst (cutV (os.map fun o => V.ref o.1) none (some (an : Int)) ++ [.ref u3])) := upd_same
      have hnew : DA C G4 5 (.ref u3) (.tuple [.tuple hso, .list []]) := .tup nC3 e3 (by show 2 ≤ 5000; decide) (.cons ((hho.weak wk).same z14) (.cons (.lst nC2 e2 (by decide) .nil) .nil))
      have pn := paired_imp (fun _ _ h => DA.same h z5) (paired_app p1 (.cons hnew .nil))
      have z15 := z14.trans z5
      generalize upd G4 u5 (.lst (cutV (os.map fun o => V.ref o.1) none (some (an : Int)) ++ [.ref u3])) = G5 at z15 pn e5 ⊢
      refine ⟨_, rfl, _, rfl, _, rfl, D, _, rfl, .of (z15 _ _ st8.1), fun u6 f6 => ?_⟩
      have z6 := same_upd (o := .lst (cutV (os.map fun o => V.ref o.1) (some (an : Int)) none)) f6
      have e6 : upd G5 u6 (.lst (cutV (os.map fun o => V.ref o.1) (some (an : Int)) none)) u6 = some (.lst (cutV (os.map fun o => V.ref o.1) (some (an : Int)) none)) := upd_same
      have e5 := z6 _ _ e5
      have z16 := z15.trans z6
      have pn := paired_imp (fun _ _ h => DA.same h z6) pn
      generalize upd G5 u6 (.lst (cutV (os.map fun o => V.ref o.1) (some (an : Int)) none)) = G6 at z16 pn e5 e6 ⊢
      obtain ⟨l2, es2, p2, n2, k2⟩ := cuts (some (an : Int)) none z16
      refine ⟨u5, u6, _, _, rfl, rfl, e5, e6, small1000' (by rw [List.length_append]; show _ + 1 + _ ≤ 1000; omega), fun u7 f7 => ?_⟩
      have C9 := C8.sm z16
      refine fin upd_same (nCn C9 f7) (paired_imp (fun _ _ h => DA.same h (same_upd f7)) (paired_app pn p2)) (by rw [List.length_append, List.length_append]; show _ + 1 + _ ≤ 15; omega) (fun x hx => ?_) (C9.sm (same_upd f7))
      rcases List.mem_append.mp hx with hx | hx
      · rcases List.mem_append.mp hx with hx | hx
        · exact k1 x hx
        · rw [List.mem_singleton.mp hx]
          exact ⟨hso, [], rfl, lho, by decide, tho, fun x h => nomatch h⟩
      · exact k2 x hx
    -- the changes in place
    have hfree : ∀ x ∈ os.map (·.2.1), H x = none := fun x hx => by
      obtain ⟨o, ho, rfl⟩ := List.mem_map.mp hx
      exact (nc o ho).2
    have cof : ∀ {os2 : List OB} {i : Nat} {t c : Addr} {v : V} {zs : List V}, os2.map (·.2.1) = os.map (·.2.1) → os2[i]? = some (t, c, v, zs) → (os.map (·.2.1))[i]? = some c := fun {os2 i t c v zs} em e => by
      rw [← em, List.getElem?_map, e]
      rfl
    have can : (os.map (·.2.1))[an]? = some ca := cof rfl ea
    have nCp : ∀ {x : Addr}, ¬ C x → x ≠ p := fun {x} h e => h (e ▸ hc)
    have eV2 : ∀ {os2 : List OB} {i : Nat} {o : OB}, os2[i]? = some o → atI (os2.map fun o => V.ref o.1) (i : Int) = some (.ref o.1) := fun {os2 i o} e => atI_nat (by rw [List.getElem?_map, e]; rfl)
    -- one item is taken out
    refine ⟨fun σ G => ∃ os2 ds2, σ = [some (.ref p), some (.ref l), some (.ref D), some (.int kd), some (.int an), some (.int on), some ha, some (.ref ca), none] ∧ CpSt C D 5 G os2 ds2 ∧ ds2.length = ds.length ∧ os2.map (·.2.1) = os.map (·.2.1) ∧ Chs p H G, ?_, ?_⟩
    · refine ⟨_, rfl, rfl, _, rfl, ite_eqI (fun c1 => ?_) (fun _ => ⟨os, ds, rfl, st8, rfl, rfl, C8⟩)⟩
      refine ⟨_, rfl, Nat.zero_le _, fun E1 hE1 => ?_⟩
      have z1 := same_upd (o := .lst []) hE1
      have e1 : upd H8 E1 (.lst []) E1 = some (.lst []) := upd_same
      generalize upd H8 E1 (.lst []) = H9 at z1 e1 ⊢
      have st9 := st8.same z1
      have C9 := C8.sm z1
      have dl : DA C H9 4 (.ref ca) (.list asa) := .lst nCca (z1 _ _ hca) (by have := Paired.length pa; omega) (paired_imp (fun _ _ h => (DA.weak wk h).same z1) pa)
      have pa9 := paired_imp (fun _ _ h => DA.same h z1) pa
      refine ⟨.list asa, .list [], dl.dp, .lst (.of e1) .nil, dl.shaped (by decide), rfl, _, rfl, ?_⟩
      rw [eqv_nil5]
      by_cases ha0 : asa = []
      · rw [ha0]
        exact ifF ⟨os, ds, rfl, st9, rfl, rfl, C9⟩
      have lza := Paired.length pa
      have hpa : 0 < asa.length := List.length_pos_iff.mpr ha0
      rw [show asa.isEmpty = false from by cases asa with | nil => exact absurd rfl ha0 | cons _ _ => rfl]
      refine ifT ?_
      refine ⟨_, rfl, .inl ⟨rfl, _, .of (z1 _ _ hca)⟩, _, rfl, _, rfl, ca, za, rfl, .inl (.of (z1 _ _ hca)), p, ((za.length : Nat) : Int), rfl, C9.1, by omega, by rw [Int.natAbs_natCast]; exact Nat.lt_of_le_of_lt (by omega : za.length ≤ 5) (by decide), fun r H10 r0 r1 C10' => ?_⟩
      have hca10 := C10'.at (nCp nCca) (z1 _ _ hca)
      obtain ⟨v, hv⟩ := at_some (xs := za) r0 r1
      obtain ⟨j, hj, hvj, hjl, _⟩ := atI_get hv
      refine ⟨ca, za, r, j, v, rfl, rfl, hca10, by omega, by omega, hj, hvj, ?_⟩
      have st10 := st9.chs C10' hc
      refine ⟨_, _, rfl, st10.set (bs := asa.eraseIdx j) ea eda (Nat.le_refl _) (Nat.le_trans (List.length_eraseIdx_le _ _) la) (fun x hx => oka x (List.mem_of_mem_eraseIdx hx)) (paired_erase j (paired_imp (fun _ _ h => DA.chs h C10' (.inl (.inl hc))) pa9)), by rw [List.length_set], (set_same ea).1, (C9.trans C10').mut (hfree ca (List.mem_of_getElem? can)) (nCp nCca)⟩
    rintro σ G ⟨os2, ds2, rfl, st, l2, em, CG⟩
    clear st8 C8 ths cuts ea eda hta hca hha pa la oka lha tha eo edo hto hco hho po lo oko lho tho nCco ncoD
    -- one item more
    refine ⟨fun σ G => ∃ os2 ds2, σ = [some (.ref p), some (.ref l), some (.ref D), some (.int kd), some (.int an), some (.int on), some ha, some (.ref ca), none] ∧ CpSt C D 6 G os2 ds2 ∧ ds2.length = ds.length ∧ os2.map (·.2.1) = os.map (·.2.1) ∧ Chs p H G, ?_, ?_⟩
    · refine ⟨_, rfl, rfl, _, rfl, ite_eqI (fun c1 => ?_) (fun _ => ⟨os2, ds2, rfl, st.up (by decide), l2, em, CG⟩)⟩
      obtain ⟨ta2, ca2, ha2, za, hsa, asa, ea, eda, hta, hca, hha, pa, la, oka, lha, tha, _, _⟩ := st.at (k := an) (by omega)
      obtain ⟨to, co, ho, zo, hso, aso, eo, edo, hto, hco, hho, po, lo, oko, lho, tho, nCco, ncoD⟩ := st.at (k := on) (by omega)
      cases Option.some.inj ((cof em ea).symm.trans can)
      refine ⟨_, rfl, Nat.zero_le _, fun E1 hE1 => ?_⟩
      have z1 := same_upd (o := .lst []) hE1
      have e1 : upd G E1 (.lst []) E1 = some (.lst []) := upd_same
      generalize upd G E1 (.lst []) = H9 at z1 e1 ⊢
      have st9 := st.same z1
      have C9 := CG.sm z1
      have wk2 : ∀ x, C x → Opn C os2 x ∨ x = D := fun x hx => .inl (.inl hx)
      have dl : DA C H9 4 (.ref ca) (.list asa) := .lst nCca (z1 _ _ hca) (by have := Paired.length pa; omega) (paired_imp (fun _ _ h => (DA.weak wk2 h).same z1) pa)
      refine ⟨.list asa, .list [], dl.dp, .lst (.of e1) .nil, dl.shaped (by decide), rfl, _, rfl, ?_⟩
      rw [eqv_nil5]
      by_cases ha0 : asa = []
      · rw [ha0]
        exact ifF ⟨os2, ds2, rfl, st9.up (by decide), l2, em, C9⟩
      have lza := Paired.length pa
      have lzo := Paired.length po
      have hpa : 0 < asa.length := List.length_pos_iff.mpr ha0
      rw [show asa.isEmpty = false from by cases asa with | nil => exact absurd rfl ha0 | cons _ _ => rfl]
      refine ifT ?_
      refine ⟨_, rfl, _, rfl, _, _, _, _, rfl, rfl, .of st9.1, eV2 eo, _, _, _, _, rfl, rfl, .of (z1 _ _ hto), atI_nat (j := 1) rfl, .inl ⟨rfl, _, .of (z1 _ _ hco)⟩, _, rfl, _, rfl, _, rfl, ca, za, rfl, .inl (.of (z1 _ _ hca)), p, ((za.length : Nat) : Int), rfl, C9.1, by omega, by rw [Int.natAbs_natCast]; exact Nat.lt_of_le_of_lt (by omega : za.length ≤ 5) (by decide), fun r H10 r0 r1 C10' => ?_⟩
      have hca10 := C10'.at (nCp nCca) (z1 _ _ hca)
      have hco10 := C10'.at (nCp nCco) (z1 _ _ hco)
      obtain ⟨v, hv⟩ := at_some (xs := za) r0 r1
      obtain ⟨dv, hdv, hvd⟩ := paired_any pa (atI_mem hv)
      refine ⟨_, _, _, _, rfl, rfl, .of hca10, hv, co, zo, _, rfl, rfl, hco10, small1000 (by omega), ?_⟩
      have st10 := st9.chs C10' hc
      have kk : ∀ {v : V} {d : PyData}, DA (fun x => Opn C os2 x ∨ x = D) G 3 v d → DA (fun x => Opn C os2 x ∨ x = D) H10 3 v d := fun h => (h.same z1).chs C10' (.inl (.inl hc))
      refine ⟨_, _, rfl, st10.set (n := 6) (bs := aso ++ [dv]) eo edo (by decide) (by rw [List.length_append]; show _ + 1 ≤ 6; omega) (fun x hx => ?_) (paired_app (paired_imp (fun _ _ h => kk h) po) (.cons (kk hvd) .nil)), by rw [List.length_set]; exact l2, (set_same eo).1.trans em, (C9.trans C10').mut (hfree co (List.mem_of_getElem? (cof em eo))) (nCp nCco)⟩
      rcases List.mem_append.mp hx with hx | hx
      · exact oko x hx
      · rw [List.mem_singleton.mp hx]
        exact oka dv hdv
    clear st l2 em CG G os2 ds2
    rintro σ G ⟨os2, ds2, rfl, st, l2, em, CG⟩
    refine ⟨fun σ G2 => σ = [some (.ref p), some (.ref l), some (.ref D), some (.int kd), some (.int an), some (.int on), some ha, some (.ref ca), none] ∧ G2 = G, ?_, ?_⟩
    · refine ⟨_, rfl, rfl, _, rfl, ite_eqI (fun c1 => ?_) (fun _ => ⟨rfl, rfl⟩)⟩
      refine ⟨_, rfl, _, _, rfl, rfl, _, rfl, ite_d (fun c2 => ?_) (fun _ => ⟨rfl, rfl⟩)⟩
      have c2 : (0 : Int) < (an : Int) := c2
      obtain ⟨ta2, ca2, ha2, za, hsa, asa, ea, eda, hta, hca, hha, pa, la, oka, lha, tha, _, _⟩ := st.at (k := an) (by omega)
      cases Option.some.inj ((cof em ea).symm.trans can)
      obtain ⟨tb, cb, hb, zb, hsb, asb, eb, edb, htb, hcb, hhb, pb, lb, okb, lhb, thb, nCcb, ncbD⟩ := st.at (k := an - 1) (by omega)
      have ab : atI (os2.map fun o => V.ref o.1) ((an : Int) - 1) = some (.ref tb) := by
        rw [show (an : Int) - 1 = ((an - 1 : Nat) : Int) by omega]
        exact eV2 eb
      have lza := Paired.length pa
      have lzb := Paired.length pb
      have wk2 : ∀ x, C x → Opn C os2 x ∨ x = D := fun x hx => .inl (.inl hx)
      have ths := st.things (by decide)
      have lO2 : (os2.map fun o => V.ref o.1).length = ds2.length := Paired.length ths
      have cuts : ∀ (lo hi : Option Int) {G' : Hp}, Same G G' → (cutV (os2.map fun o => V.ref o.1) lo hi).length ≤ 7 ∧ ∃ es, Paired (DA C G' 5) (cutV (os2.map fun o => V.ref o.1) lo hi) es ∧ es.length ≤ 7 ∧ ∀ x ∈ es, PtOk x := fun lo hi G' sg => by
        obtain ⟨es, pz, hm, lz⟩ := paired_cut lo hi ths
        exact ⟨Nat.le_trans (Nat.le_of_eq (Paired.length pz)) (by omega), es, paired_imp (fun _ _ h => DA.same h sg) pz, by omega, fun x hx => (st.2.2.2.2.2 x (hm x hx)).ok (by decide)⟩
      refine ⟨_, rfl, _, rfl, _, _, rfl, rfl, _, _, _, _, rfl, rfl, .of st.1, ab, _, _, _, _, rfl, rfl, .of htb, atI_nat (j := 1) rfl, _, rfl, cb, ca, zb, za, rfl, rfl, hcb, hca, small1000' (by omega), fun u1 f1 => ?_⟩
      have z1 := same_upd (o := .lst (zb ++ za)) f1
      have e1 : upd G u1 (.lst (zb ++ za)) u1 = some (.lst (zb ++ za)) := upd_same
      have nC1 := nCn CG f1
      generalize upd G u1 (.lst (zb ++ za)) = G1 at z1 e1 ⊢
      refine ⟨_, rfl, _, rfl, _, _, rfl, rfl, _, rfl, D, _, rfl, .of (z1 _ _ st.1), fun u2 f2 => ?_⟩
      have z2 := same_upd (o := .lst (cutV (os2.map fun o => V.ref o.1) none (some ((an : Int) - 1)))) f2
      have e2 : upd G1 u2 (.lst (cutV (os2.map fun o => V.ref o.1) none (some ((an : Int) - 1)))) u2 = some (.lst (cutV (os2.map fun o => V.ref o.1) none (some ((an : Int) - 1)))) := upd_same
      have e1 := z2 _ _ e1
      have z12 := z1.trans z2
      generalize upd G1 u2 (.lst (cutV (os2.map fun o => V.ref o.1) none (some ((an : Int) - 1)))) = G2 at z12 e1 e2 ⊢
      refine ⟨_, rfl, _, rfl, _, _, rfl, rfl, _, _, _, _, rfl, rfl, .of (z12 _ _ st.1), ab, _, _, _, _, rfl, rfl, .of (z12 _ _ htb), atI_nat (j := 0) rfl, _, rfl, by show 2 ≤ sizeLine; decide, fun u3 f3 => ?_⟩
      have z3 := same_upd (o := .tup [hb, .ref u1]) f3
      have e3 : upd G2 u3 (.tup [hb, .ref u1]) u3 = some (.tup [hb, .ref u1]) := upd_same
      have nC3 := nCn (CG.sm z12) f3
      have e1 := z3 _ _ e1
      have e2 := z3 _ _ e2
      have z13 := z12.trans z3
      generalize upd G2 u3 (.tup [hb, .ref u1]) = G3 at z13 e1 e2 e3 ⊢
      refine ⟨by show 1 ≤ sizeLine; decide, fun u4 f4 => ?_⟩
      have z4 := same_upd (o := .lst [.ref u3]) f4
      have e4 : upd G3 u4 (.lst [.ref u3]) u4 = some (.lst [.ref u3]) := upd_same
      have e1 := z4 _ _ e1
      have e2 := z4 _ _ e2
      have e3 := z4 _ _ e3
      have z14 := z13.trans z4
      generalize upd G3 u4 (.lst [.ref u3]) = G4 at z14 e1 e2 e3 e4 ⊢
      clear z1 z2 z3 z4 f1 f2 f3 f4
      obtain ⟨l1, es1, p1, n1, k1⟩ := cuts none (some ((an : Int) - 1)) z14
      refine ⟨u2, u4, _, _, rfl, rfl, e2, e4, small1000' (by show _ + 1 ≤ 1000; omega), fun u5 f5 => ?_⟩
      have z5 := same_upd (o := .lst (cutV (os2.map fun o => V.ref o.1) none (some ((an : Int) - 1)) ++ [.ref u3])) f5
      have e5 : upd G4 u5 (.lst (cutV (os2.map fun o => V.ref o.1) none (some ((an : Int) - 1)) ++ [.ref u3])) u5 = some (.lst (cutV (os2.map fun o => V.ref o.1) none (some ((an : Int) - 1)) ++ [.ref u3])) := upd_same
      have hnew : DA C G4 5 (.ref u3) (.tuple [.tuple hsb, .list (asb ++ asa)]) := .tup nC3 e3 (by show 2 ≤ 5000; decide) (.cons ((hhb.weak wk2).same z14) (.cons (.lst nC1 e1 (by rw [List.length_append]; omega) (paired_imp (fun _ _ h => (DA.weak wk2 h).same z14) (paired_app pb pa))) .nil))
      have pn := paired_imp (fun _ _ h => DA.same h z5) (paired_app p1 (.cons hnew .nil))
      have z15 := z14.trans z5
      generalize upd G4 u5 (.lst (cutV (os2.map fun o => V.ref o.1) none (some ((an : Int) - 1)) ++ [.ref u3])) = G5 at z15 pn e5 ⊢
      refine ⟨_, rfl, _, rfl, _, _, rfl, rfl, _, rfl, D, _, rfl, .of (z15 _ _ st.1), fun u6 f6 => ?_⟩
      have z6 := same_upd (o := .lst (cutV (os2.map fun o => V.ref o.1) (some ((an : Int) + 1)) none)) f6
      have e6 : upd G5 u6 (.lst (cutV (os2.map fun o => V.ref o.1) (some ((an : Int) + 1)) none)) u6 = some (.lst (cutV (os2.map fun o => V.ref o.1) (some ((an : Int) + 1)) none)) := upd_same
      have e5 := z6 _ _ e5
      have z16 := z15.trans z6
      have pn := paired_imp (fun _ _ h => DA.same h z6) pn
      generalize upd G5 u6 (.lst (cutV (os2.map fun o => V.ref o.1) (some ((an : Int) + 1)) none)) = G6 at z16 pn e5 e6 ⊢
      obtain ⟨l2', es2, p2, n2, k2⟩ := cuts (some ((an : Int) + 1)) none z16
      refine ⟨u5, u6, _, _, rfl, rfl, e5, e6, small1000' (by rw [List.length_append]; show _ + 1 + _ ≤ 1000; omega), fun u7 f7 => ?_⟩
      have C9 := CG.sm z16
      refine fin upd_same (nCn C9 f7) (paired_imp (fun _ _ h => DA.same h (same_upd f7)) (paired_app pn p2)) (by rw [List.length_append, List.length_append]; show _ + 1 + _ ≤ 15; omega) (fun x hx => ?_) (C9.sm (same_upd f7))
      rcases List.mem_append.mp hx with hx | hx
      · rcases List.mem_append.mp hx with hx | hx
        · exact k1 x hx
        · rw [List.mem_singleton.mp hx]
          exact ⟨hsb, asb ++ asa, rfl, lhb, by rw [List.length_append]; omega, thb, fun x h => (List.mem_append.mp h).elim (okb x) (oka x)⟩
      · exact k2 x hx
    rintro σ G2 ⟨rfl, rfl⟩
    exact ⟨_, rfl, finD st (by decide) (by omega) CG⟩
end
theorem putK_one (n : Str) (v : V) : mergeK ([] : List (Key × V)) [(Sum.inr n, v)] = [(Sum.inr n, v)] := rfl
def sv1 (sn : Str) (sv : Addr) (n : Str) (ga : Addr) : SvE := ⟨sn, sv, n, ga, [], none⟩
theorem svcs1 {H : Hp} {ts : List (Str × Int)} {sn n : Str} {sv ga : Addr} (hw : Wd sn) (hn : n ∈ ts.map (·.1)) (h1 : H sv = some (.tup [.str n, .ref ga, .non])) (h2 : H ga = some (.tup [])) : Svcs H ts [] [sv1 sn sv n ga] 1 := by
  refine ⟨⟨rfl, by simp, fun s hs => ?_⟩, fun b hb => ?_, ?_⟩
  · have hs : s ∈ [sn] := hs
    rw [List.mem_singleton.mp hs]
    exact hw
  · rw [List.mem_singleton.mp hb]
    obtain ⟨b0, hb0, e⟩ := List.mem_map.mp hn
    exact ⟨⟨h1, h2⟩, ⟨b0.2, by rw [← e]; exact hb0, ⟨.nil, fun c hc => by cases hc⟩, Nat.zero_le _⟩, fun c hc => by cases hc⟩
  · unfold fillE
    have : ∀ l : List SvE, l.length ≤ 1 → (l.map (·.tab)).Nodup := by
      intro l hl
      match l, hl with
      | [], _ => exact List.nodup_nil
      | [x], _ => simp
    exact this _ (List.length_filter_le _ [sv1 sn sv n ga])
theorem keys0 {H : Hp} {ts : List (Str × Int)} : Keys H ts [] := ⟨List.nodup_nil, Nat.zero_le _, (fun b hb => by cases hb), (fun b hb => by cases hb)⟩
/-! ### texts in lists, as data -/
theorem strs_all {K : PySem.W.Frag} {H : Hp} : ∀ {ls : List Str}, DpAll K H (ls.map V.str) (ls.map PyData.str)
  | [] => .nil
  | _ :: _ => .cons (.str _) strs_all
theorem strs_lay : ∀ {ls : List Str}, (∀ l ∈ ls, Low l) → PyData.canLayAll0 (ls.map PyData.str) = true ∧ PyData.depthAll (ls.map PyData.str) = 0
  | [], _ => ⟨rfl, rfl⟩
  | l :: ls, h => by
    obtain ⟨h1, h2⟩ := strs_lay (ls := ls) fun x hx => h x (by simp [hx])
    have h3 := low_ok (h l (by simp))
    constructor
    · rw [List.map_cons]
      simp only [PyData.canLayAll0, PyData.canLay0, h1, h3, Bool.and_self]
    · rw [List.map_cons]
      simp only [PyData.depthAll, PyData.depth, h2]
      rfl
theorem strs_dp {K : PySem.W.Frag} {H : Hp} {p : Addr} {ls : List Str} (e : H p = some (.lst (ls.map V.str))) (h : ∀ l ∈ ls, Low l) : Dp K H (.ref p) (.list (ls.map PyData.str)) ∧ SeqAt.shaped (.list (ls.map PyData.str)) = true ∧ PyData.eqv (.list (ls.map PyData.str)) (.list (ls.map PyData.str)) = true := by
  obtain ⟨h1, h2⟩ := strs_lay h
  have c : (PyData.list (ls.map PyData.str)).canLay0 = true := by simp only [PyData.canLay0, h1]
  refine ⟨.lst (.of e) strs_all, ?_, PySem.SeqAt.eqv_refl _ c⟩
  unfold SeqAt.shaped
  rw [c, Bool.true_and]
  exact decide_eq_true (by simp only [PyData.depth, h2]; decide)
theorem joinS_low : ∀ {ws : List Str}, (∀ x ∈ ws, SgOk x) → Low (joinS ws)
  | [], _ => by
    intro c hc
    have h : (joinS []).cps.toList = [] := by decide +kernel
    rw [h] at hc
    cases hc
  | [x], h => fun c hc => ((h x (by simp)).2 c hc).1
  | x :: z :: r, h => by
    have ih := joinS_low (ws := z :: r) fun y hy => h y (by simp [hy])
    intro c hc
    have hc : c ∈ (x ++ " " ++ joinS (z :: r)).cps.toList := hc
    rw [cps_app, cps_app] at hc
    rcases List.mem_append.mp hc with hc | hc
    · rcases List.mem_append.mp hc with hc | hc
      · exact ((h x (by simp)).2 c hc).1
      · have h32 : (" " : Str).cps.toList = [32] := by decide +kernel
        rw [h32] at hc
        rw [List.mem_singleton.mp hc]
        decide
    · exact ih c hc
theorem lines_low {w : Int} (h0 : 0 ≤ w) (h1 : w < 10 ^ 30) {ds : List PyData} (h : ∀ x ∈ ds, PtOk x) : ∀ l ∈ linesD w ds, Low l := by
  intro l hl
  rcases List.mem_cons.mp hl with rfl | hl
  · refine joinS_low fun x hx => ?_
    rcases List.mem_cons.mp hx with rfl | hx
    · exact lit_sg _ (by simp)
    · rw [List.mem_singleton.mp hx]
      exact nT_sg (by omega)
  · obtain ⟨d, hd, hl⟩ := List.mem_flatMap.mp hl
    obtain ⟨hs, as, rfl, l12, _, ht, ha⟩ := h d hd
    rcases List.mem_cons.mp hl with rfl | hl
    · refine joinS_low fun w hw => ?_
      rcases List.mem_cons.mp hw with rfl | hw
      · exact lit_sg _ (by simp)
      · obtain ⟨t, h1, rfl⟩ := List.mem_map.mp hw
        exact termW_sg (ht t h1)
    · obtain ⟨x, hx, rfl⟩ := List.mem_map.mp hl
      obtain ⟨n, ts, rfl, hn, l4, htt⟩ := ha x hx
      refine joinS_low fun w hw => ?_
      rcases List.mem_cons.mp hw with rfl | hw
      · exact lit_sg _ (by simp)
      rcases List.mem_cons.mp hw with rfl | hw
      · exact wd_sg hn
      · obtain ⟨t, h1, rfl⟩ := List.mem_map.mp hw
        exact termW_sg (htt t h1)
/-! ### parts that the law builds: they lack nothing -/
def GoodP (ts : List (Str × Int)) (m : Nat) (y : PyData) : Prop := ∃ hs as, y = .tuple [.tuple hs, .list as] ∧ hs.length = m ∧ as.length ≤ 5 ∧ (∀ x ∈ as, AtT ts x) ∧ ∀ x ∈ hs, Safe as x
theorem GoodP.ptb {ts : List (Str × Int)} {m k : Nat} {y : PyData} (h : GoodP ts m y) (hT : Tabs ts k 4) (m12 : m ≤ 12) : PtB 5 y := by
  obtain ⟨hs, as, rfl, l1, l2, ha, hh⟩ := h
  refine ⟨hs, as, rfl, by omega, l2, fun t ht => (hh t ht).1, fun x hx => ?_⟩
  obtain ⟨n, us, rfl, hn, hu⟩ := ha x hx
  have h4 := hT.wd _ hn
  exact ⟨n, us, rfl, hT.nm.wd _ (List.mem_map.mpr ⟨_, hn, rfl⟩), by have := h4.2; omega, hu⟩
theorem GoodP.fault {ts : List (Str × Int)} {m k : Nat} {y : PyData} (h : GoodP ts m y) (hT : Tabs ts k 4) : faultD ts (m : Int) y = "" := by
  obtain ⟨hs, as, rfl, l1, l2, ha, hh⟩ := h
  have f1 : formD (.tuple [.tuple hs, .list as]) = true := by
    show (decide (as.length ≤ 5) && as.all atomD) = true
    rw [decide_eq_true l2, Bool.true_and]
    refine List.all_eq_true.mpr fun x hx => ?_
    obtain ⟨n, us, rfl, _⟩ := ha x hx
    rfl
  have f2 : termsD (m : Int) hs = true := by
    unfold termsD
    rw [decide_eq_true (by rw [l1]), Bool.true_and]
    exact List.all_eq_true.mpr fun x hx => (hh x hx).1
  have f3 : (as.all fun x => nameD ts (atName x)) = true := List.all_eq_true.mpr fun x hx => by
    obtain ⟨n, us, rfl, hn, _⟩ := ha x hx
    obtain ⟨w, e, _⟩ := tab_get hT (List.mem_map.mpr ⟨_, hn, rfl⟩)
    show (valV (tabK ts) (Sum.inr n)).isSome = true
    rw [e]
    rfl
  have f4 : (as.all fun x => termsD (wdD ts (atName x)) (atTerms x)) = true := List.all_eq_true.mpr fun x hx => by
    obtain ⟨n, us, rfl, hn, hu⟩ := ha x hx
    show termsD (widthAt ts n) us = true
    rw [widthAt_mem hT.nm.nd hn]
    unfold termsD
    rw [decide_eq_true rfl, Bool.true_and]
    exact List.all_eq_true.mpr hu
  have f5 : safeD (.tuple [.tuple hs, .list as]) = true := by
    refine List.all_eq_true.mpr fun x hx => ?_
    have hx : x ∈ hs := hx
    obtain ⟨h1, h2⟩ := hh x hx
    cases x with
    | tuple us =>
      obtain ⟨i, rfl⟩ := term_tup h1
      have h3 : varD (.tuple [.int i]) = true := by
        have h1 : (false || varD (.tuple [.int i])) = true := h1
        rwa [Bool.false_or] at h1
      rw [Bool.or_eq_true]
      exact .inr (List.any_eq_true.mpr ⟨_, h2 h3, (eqv_tupI h1).mpr rfl⟩)
    | _ => rfl
  unfold faultD
  rw [if_neg (by rw [f1]; decide), if_neg (by show ¬ termsD _ hs = false; rw [f2]; decide), if_neg (by show ¬ as.all _ = false; rw [f3]; decide), if_neg (by show ¬ as.all _ = false; rw [f4]; decide), if_neg (by rw [f5]; decide)]
theorem good_due {ts : List (Str × Int)} {m k : Nat} {ds : List PyData} (h : ∀ y ∈ ds, GoodP ts m y) (hT : Tabs ts k 4) (m12 : m ≤ 12) (l : ds.length ≤ 4000) : dueD ts (.int (m : Int)) (.list ds) = none := by
  rw [due_l (wi := (m : Int)) (by show (if 0 ≤ (m : Int) ∧ (m : Int) ≤ 12 then _ else _) = _; rw [if_pos ⟨by omega, by omega⟩]) l, firstD_none fun d hd => (h d hd).fault hT]
  rfl
theorem later1 {B : Hp → Prop} {C : Hp → Prop} {G : Prop} (f : (∀ H, C H → B H) → G) (b : ∀ H, C H → B H) : G := f b
theorem iteIB {i j : Int} {A B : Prop} (h2 : i ≠ j → B) (h1 : i = j → A) : if decide (V.int i = V.int j) = true then A else B := ite_eqI h1 h2
theorem DctAt.chs {H H' : Hp} {t p : Addr} {kvs : List (Key × V)} (h : DctAt H t kvs) (hP : Cell H p) (c : Chs p H H') : DctAt H' t kvs := by
  obtain ⟨ks, e, pm⟩ := h
  exact ⟨ks, c.at (cell_ne hP e (by intro _ z; cases z)) e, pm⟩
theorem sch_chs0 {C q p : Addr} {H H' : Hp} {ts : List (Str × Int)} {ks : List KeyE} {ss : List SvE} {m n : Nat} (h : SchAt C q H ts ks ss m n) (hP : Cell H p) (c : Chs p H H') : SchAt C q H' ts ks ss m n := by
  obtain ⟨dx, d1, d2, d3, O⟩ := h
  have tp : ∀ b xs, H b = some (.tup xs) → H' b = some (.tup xs) := fun b xs e => c.at (cell_ne hP e (by intro _ z; cases z)) e
  exact ⟨dx, d1, d2, d3, c.at (cell_ne hP O.ob (by intro _ z; cases z)) O.ob, O.tb.chs hP c, O.ky.chs hP c, O.sv.chs hP c, O.hT, O.hK.mono tp, O.hS.mono tp, O.m5, O.n8⟩
theorem due_mem {ts : List (Str × Int)} {wd pd : PyData} {s : Str} {i : Int} (h : dueD ts wd pd = some (s, i)) : s.length ≤ 1000 ∧ Low s := by
  have all : ∀ s ∈ (["form", "head", "table", "terms", "unsafe", "", "width", "parts"] : List Str), s.length ≤ 1000 ∧ Low s := by
    have h : ((["form", "head", "table", "terms", "unsafe", "", "width", "parts"] : List Str).all fun s => decide (s.length ≤ 1000) && s.cps.toList.all fun c => decide (c < 128)) = true := by decide +kernel
    intro u hu
    have h1 := List.all_eq_true.mp h u hu
    rw [Bool.and_eq_true] at h1
    exact ⟨of_decide_eq_true h1.1, fun c hc => of_decide_eq_true (List.all_eq_true.mp h1.2 c hc)⟩
  refine all s ?_
  have fm : ∀ {w : Int} {d : PyData}, faultD ts w d ∈ (["form", "head", "table", "terms", "unsafe", ""] : List Str) := by
    intro w d
    unfold faultD
    split
    · simp
    split
    · simp
    split
    · simp
    split
    · simp
    split
    · simp
    · simp
  have ff : ∀ {ds : List PyData} {w : Int} {k : Nat} {z : Str × Nat}, firstD ts w ds k = some z → z.1 ∈ (["form", "head", "table", "terms", "unsafe", ""] : List Str) := by
    intro ds
    induction ds with
    | nil => intro w k z h; cases h
    | cons d r ih =>
      intro w k z h
      unfold firstD at h
      split at h
      · exact ih h
      · cases h
        exact fm
  unfold dueD at h
  split at h
  · cases h
    simp
  · split at h
    · split at h
      · obtain ⟨z, e, hz⟩ := Option.map_eq_some_iff.mp h
        cases hz
        have h1 := ff e
        simp only [List.mem_cons, List.not_mem_nil, or_false] at h1 ⊢
        rcases h1 with h1 | h1 | h1 | h1 | h1 | h1
        · exact .inl h1
        · exact .inr (.inl h1)
        · exact .inr (.inr (.inl h1))
        · exact .inr (.inr (.inr (.inl h1)))
        · exact .inr (.inr (.inr (.inr (.inl h1))))
        · exact .inr (.inr (.inr (.inr (.inr (.inl h1)))))
      · cases h
        simp
    · cases h
      simp
theorem told_da {C : Addr → Prop} {H H' : Hp} {t l : Addr} {n : Nat} {pd : PyData} (hO : Occ C H) (e : H' t = some (.tup [.str "told", .ref l])) (nt : H t = none) (dl : DA C H' n (.ref l) pd) : DA C H' (n + 1) (.ref t) (.tuple [.str "told", pd]) :=
  .tup (hO.new nt) e (by show 2 ≤ 5000; decide) (.cons (Sc.da (.str _ (by decide +kernel) (by decide +kernel))) (.cons dl .nil))
theorem raised_da {C : Addr → Prop} {H H' : Hp} {t : Addr} {n : Nat} {ts : List (Str × Int)} {wd pd : PyData} {s : Str} {i : Int} (hO : Occ C H) (e : H' t = some (.tup [.str "raised", .str s, .int i])) (nt : H t = none) (h : dueD ts wd pd = some (s, i)) : DA C H' (n + 1) (.ref t) (.tuple [.str "raised", .str s, .int i]) :=
  .tup (hO.new nt) e (by show 3 ≤ 5000; decide) (.cons (Sc.da (.str _ (by decide +kernel) (by decide +kernel))) (.cons (Sc.da (.str _ (due_mem h).1 (due_mem h).2)) (.cons (Sc.da (.int _)) .nil)))
theorem ToldQ.mono {ts : List (Str × Int)} {wd pd : PyData} {C : Addr → Prop} {n : Nat} {H : Hp} {Q R : VK} (k : ∀ v H, Q v H → R v H) (h : ToldQ ts wd pd C n H Q) : ToldQ ts wd pd C n H R :=
  ⟨fun e t l H' e1 f d s => k _ _ (h.1 e t l H' e1 f d s), fun s i e t H' e1 f s' => k _ _ (h.2 s i e t H' e1 f s')⟩
theorem cmp_told {CS : Addr} {C : Addr → Prop} {x : Addr} {ts : List (Str × Int)} {ks : List KeyE} {ss : List SvE} {m n : Nat} {wi : Int} {xp : V} {es : List PyData} {G : Hp} {R : V → V → Hp → Prop} {E : XK} (hO : Occ C G) (hS : SchAt CS x G ts ks ss m n) (hd : DA C G 6 xp (.list es)) (k : ∀ v1 v2 d G', DA C G' 7 v1 d → DA C G' 7 v2 d → Same G G' → R v1 v2 G') :
    ToldQ ts (.int wi) (.list es) C 6 G (fun v1 H1 => spMade CS [.ref x, .int wi, xp] H1 (fun v2 H2 => R v1 v2 H2) E) := by
  refine ⟨fun hn t l H1 e1 f1 d1 s1 => ?_, fun s i he t H1 e1 f1 s1 => ?_⟩
  · refine ⟨C, 6, x, ts, ks, ss, m, n, wi, xp, es, rfl, hO.same s1, by decide, hS.same s1, hd.same s1, fun _ t2 l2 H2 e2 f2 d2 s2 => ?_, fun s i he => by rw [hn] at he; cases he⟩
    exact k _ _ _ _ (told_da hO (s2 _ _ e1) f1 (d1.same s2)) (told_da (hO.same s1) e2 f2 d2) (s1.trans s2)
  · refine ⟨C, 6, x, ts, ks, ss, m, n, wi, xp, es, rfl, hO.same s1, by decide, hS.same s1, hd.same s1, (fun hn => by rw [hn] at he; cases he), fun s' i' he' t2 H2 e2 f2 s2 => ?_⟩
    rw [he] at he'
    cases he'
    exact k _ _ _ _ (raised_da hO (s2 _ _ e1) f1 he) (raised_da (hO.same s1) e2 f2 he) (s1.trans s2)
theorem QAt.same {CQ p sp : Addr} {C : Addr → Prop} {n : Nat} {H H' : Hp} {wi : Int} {ds : List PyData} (h : QAt CQ p sp C n H wi ds) (s : Same H H') : QAt CQ p sp C n H' wi ds := by
  obtain ⟨dx, l, h1, h2, h3⟩ := h
  exact ⟨dx, l, s _ _ h1, h2.same s, h3⟩
def spLaw (K : PySem.W.Frag) : Sp := fun vs H Q _ => ∃ (p : Addr) (ns : List Int), vs = [.ref p] ∧ SqL K H p (ns.map V.int) ∧ ns.length ≤ 63 ∧ ∀ H', Q (.bl true) H'
section
variable {P : Program} {w : World} {K : PySem.W.Frag} {mg : Str → Option Value} {base : Heap} {a : Nat → Addr} {d : Nat → FuncData}
theorem ok_law (T : Txt K mg a d) (W : TxtQ K w a) : FnOk P w K mg base CX0 12 (a 85) (d 85) ["_law_script"] (spLaw K) := by
  have G73 : FnOk P w K mg base CX0 1 (a 73) (d 73) ["_law_script", "_law_k"] (spState K) := ok_state T
  have G74 : FnOk P w K mg base CX0 1 (a 74) (d 74) ["_law_state_here", "_law_many"] spPick2 := ok_pick2 T
  have G77 : FnOk P w K mg base CX0 3 (a 77) (d 77) ["_law_state_here"] spTables4 := ok_ltabs T
  have G78 : FnOk P w K mg base CX0 5 (a 78) (d 78) ["_law_state_here", "_law_tables_here", "_law_width"] spPart4 := ok_lpart T
  have G81 : FnOk P w K mg base CX0 3 (a 81) (d 81) ["_law_width", "_law_parts"] spWrit := ok_writ T
  have G82 : FnOk P w K mg base CX0 4 (a 82) (d 82) ["_law_state_here", "_law_parts"] spLChg := ok_lchg T
  have G83 : FnOk P w K mg base CX0 9 (a 83) (d 83) ["_law_schema", "_law_width", "_law_parts"] (spMade (a 43)) := ok_made T
  have G84 : FnOk P w K mg base CX0 11 (a 84) (d 84) ["_law_schema", "_law_lines"] (spLRead (a 43)) := ok_lread T W
  have G5300 : FnOk P w K mg base CX0 5 (a 5300) (d 5300) ["self", "tables", "keys", "services"] (spSInit (a 43)) := ok_sinit T
  have G5304 : FnOk P w K mg base CX0 1 (a 5304) (d 5304) ["self", "other"] (spSEq (a 43)) := ok_seq T
  have G6700 : FnOk P w K mg base (L2.CX P w) 7 (a 6700) (d 6700) ["self", "schema", "width", "parts"] (spQInit (a 43) (a 57) (a 7)) := ok_qinit T
  have G6701 : FnOk P w K mg base CX0 1 (a 6701) (d 6701) ["self"] (spPartL (a 57)) := ok_partl T
  have G71 : FnOk P w K mg base CX0 2 (a 71) (d 71) ["question"] (spQLines (a 57)) := ok_qlines T
  have G67 : FnOk P w K mg base (L2.CX P w) 9 (a 67) (d 67) ["schema", "lines"] (spReadQ a K (a 43) (a 57) (a 7)) := ok_rdq T W
  refine T.F85.ok sc_law (fun vs H Q E h => ?_) (fun cdv A outer s H vs Q E hr h => ?_)
  · obtain ⟨p, ns, rfl, _⟩ := h
    rfl
  · obtain ⟨sp, ns, rfl, hS0, hl0, q⟩ := h
    refine ⟨_, (pss_cons (ps_set (i := 1) sc_law.nd rfl (.inl rfl) (pe_call G73 (hr.mono (by decide)) (by rfl) T.g73 T.F73.kp T.b73 .nil pass0 (pa_cons (pv 0) (pa_cons pe_int pa_nil))))
  (pss_cons (ps_set (i := 2) sc_law.nd rfl (.inr rfl) (pe_call G77 (hr.mono (by decide)) (by rfl) T.g77 T.F77.kp T.b77 .nil pass0 (pa_cons (pv 1) pa_nil)))
  (pss_cons (ps_set (i := 3) sc_law.nd rfl (.inr rfl) (pe_call G74 (hr.mono (by decide)) (by rfl) T.g74 T.F74.kp T.b74 .nil pass0 (pa_cons (pv 1) (pa_cons pe_int pa_nil))))
  (pss_cons (ps_setLc (i := 4) (own := [("_law_k", 13)]) rfl sc_law.nd rfl rfl (sw_true rfl rfl rfl (by decide +kernel)) (pi_range1 (by rfl) T.z_range (pa_cons (pe_call G74 (hr.mono (by decide)) (by rfl) T.g74 T.F74.kp T.b74 .nil pass0 (pa_cons (pv 1) (pa_cons pe_int pa_nil))) pa_nil)) (blkOk_by (N := ["_law_script", "_law_state_here", "_law_tables_here", "_law_width", "_law_parts", "_law_schema", "_law_question", "_law_due", "_law_lines", "_law_handed", "_law_back", "_law_changed_here", "_law_other", "_law_k"]) (sc := defScope s_law) (by decide +kernel)) (fun _ _ _ _ _ => pg_name (i := 13) sc_law.nd rfl (.inl rfl)) (fun _ _ _ _ _ => pts_nil) (fun _ _ _ _ _ => (pe_call G78 (hr.mono (by decide)) (by rfl) T.g78 T.F78.kp T.b78 .nil pass0 (pa_cons (pe_call G73 (hr.mono (by decide)) (by rfl) T.g73 T.F73.kp T.b73 .nil pass0 (pa_cons (pv 0) (pa_cons (pe_op op_add (pv 13) pe_int) pa_nil))) (pa_cons (pv 2) (pa_cons (pv 3) pa_nil))))))
  (pss_cons (ps_set (i := 5) sc_law.nd rfl (.inl rfl) (pe_make T.M_43 G5300 (hr.mono (by decide)) (by rfl) T.cg_43 T.b5300 .nil pass0 (pa_cons (pe_callTy (T := "dict")  call_dictD (by rfl) T.z_dict (by decide +kernel) (pa_cons (pv 2) pa_nil)) (pa_cons pe_dnewK (pa_cons (pe_disp (pps_cons pe_str (pe_tup (pa_cons (pe_ix ix_list (pe_callTy (T := "list")  (call_listD rfl) (by rfl) T.z_list (by decide +kernel) (pa_cons (pv 2) pa_nil)) pe_int (fun _ _ => rfl)) (pa_cons (pe_tup pa_nil) (pa_cons pe_non pa_nil)))) pps_nil) (by rfl) (by rfl) (fun z => by cases z) (by decide)) pa_nil)))))
  (pss_cons (ps_set (i := 6) sc_law.nd rfl (.inl rfl) (pe_make T.M_57 G6700 (hr.mono (by decide)) (by rfl) T.cg_57 T.b6700 .nil (passN rfl) (pa_cons (pv 5) (pa_cons (pv 3) (pa_cons (pv 4) pa_nil)))))
  (pss_cons (ps_set (i := 7) sc_law.nd rfl (.inl rfl) (pe_call G81 (hr.mono (by decide)) (by rfl) T.g81 T.F81.kp T.b81 .nil pass0 (pa_cons (pv 3) (pa_cons (pv 4) pa_nil))))
  (pss_cons (ps_set (i := 8) sc_law.nd rfl (.inl rfl) (pe_call G71 (hr.mono (by decide)) (by rfl) T.g71 T.F71.kp T.b71 .nil pass0 (pa_cons (pv 6) pa_nil)))
  (pss_cons (ps_if (PW.pt (pw_or (pt_not (pt_val (pe_callB (id := "isinstance")  call_isi (by rfl) T.z_isinstance (by decide +kernel) (pa_cons (pv 8) (pa_cons (pe_bltn (v := .ty "list") (by rfl) T.z_list (by decide +kernel) rfl) pa_nil))))) (pw_or1 (pt_cmpR (op_neD (hu_of64 hr)) (pv 8) (pv 7) (nomark _)))))
    (pss_one (ps_ret pe_bl))
    pss_nil)
  (pss_cons (ps_set (i := 9) sc_law.nd rfl (.inl rfl) (pe_callTy (T := "list")  call_list_of (by rfl) T.z_list (by decide +kernel) (pa_cons (pv 7) pa_nil)))
  (pss_cons (ps_set (i := 10) sc_law.nd rfl (.inl rfl) (pe_call G67 (hr.mono (by decide)) (by rfl) T.g67 T.F67.kp T.b67 .nil (passN rfl) (pa_cons (pv 5) (pa_cons (pv 9) pa_nil))))
  (pss_cons (ps_if (PW.pt (pw_or (pt_cmpR op_ne (pe_fld (pv 10) rfl) (pv 3) (nomark _)) (pw_or (pt_val (pe_callB (id := "isinstance")  call_isi (by rfl) T.z_isinstance (by decide +kernel) (pa_cons (pe_fld (pv 10) rfl) (pa_cons (pe_bltn (v := .ty "bool") (by rfl) T.z_bool (by decide +kernel) rfl) pa_nil)))) (pw_or (pt_cmpR (op_neD (hu_of64 hr)) (pe_meth0 (pv 10) T.cl_57 T.m_6701 G6701 (hr.mono (by decide)) T.b6701 .nil pass0) (pv 4) (nomark _)) (pw_or1 (pt_cmpR (op_neD (hu_of64 hr)) (pv 9) (pv 7) (nomark _)))))))
    (pss_one (ps_ret pe_bl))
    pss_nil)
  (pss_cons (ps_if (PW.pt (pw_or (pt_cmpR (op_neD (hu_of64 hr)) (pe_call G71 (hr.mono (by decide)) (by rfl) T.g71 T.F71.kp T.b71 .nil pass0 (pa_cons (pv 10) pa_nil)) (pv 7) (nomark _)) (pw_or1 (pt_cmpR (op_neO (E := fun _ _ _ => False) G5304 (hr.mono (by decide)) (hu_of hr) T.om_43 T.ne_43 T.m_5304.at_ T.m_5304.fn T.b5304 pass0) (pe_fld (pv 10) rfl) (pv 5) (nomark _)))))
    (pss_one (ps_ret pe_bl))
    pss_nil)
  (pss_cons (ps_set (i := 11) sc_law.nd rfl (.inl rfl) (pe_call G82 (hr.mono (by decide)) (by rfl) T.g82 T.F82.kp T.b82 .nil pass0 (pa_cons (pv 1) (pa_cons (pv 4) pa_nil))))
  (pss_cons (ps_if (pt_cmpR (op_neD (hu_of64 hr)) (pe_call G84 (hr.mono (by decide)) (by rfl) T.g84 T.F84.kp T.b84 .nil pass0 (pa_cons (pv 5) (pa_cons (pe_call G81 (hr.mono (by decide)) (by rfl) T.g81 T.F81.kp T.b81 .nil pass0 (pa_cons (pv 3) (pa_cons (pv 11) pa_nil))) pa_nil))) (pe_call G83 (hr.mono (by decide)) (by rfl) T.g83 T.F83.kp T.b83 .nil pass0 (pa_cons (pv 5) (pa_cons (pv 3) (pa_cons (pv 11) pa_nil)))) (nomark _))
    (pss_one (ps_ret pe_bl))
    pss_nil)
  (pss_cons (ps_set (i := 12) sc_law.nd rfl (.inl rfl) (pe_ix ix_list (pe_lst (pa_cons pe_int (pa_cons pe_int (pa_cons pe_int (pa_cons (pe_op op_sub (pe_op op_pow pe_int pe_int) pe_int) (pa_cons (pe_op op_add (pv 3) pe_int) pa_nil)))))) (pe_call G74 (hr.mono (by decide)) (by rfl) T.g74 T.F74.kp T.b74 .nil pass0 (pa_cons (pv 1) (pa_cons pe_int pa_nil))) (fun _ _ => rfl)))
  (pss_one (ps_ret (pe_cmpR (op_eqD (hu_of64 hr)) (pe_call G84 (hr.mono (by decide)) (by rfl) T.g84 T.F84.kp T.b84 .nil pass0 (pa_cons (pv 5) (pa_cons (pe_call G81 (hr.mono (by decide)) (by rfl) T.g81 T.F81.kp T.b81 .nil pass0 (pa_cons (pv 12) (pa_cons (pv 4) pa_nil))) pa_nil))) (pe_call G83 (hr.mono (by decide)) (by rfl) T.g83 T.F83.kp T.b83 .nil pass0 (pa_cons (pv 5) (pa_cons (pv 12) (pa_cons (pv 4) pa_nil)))) (nomark _)))))))))))))))))))), ?_⟩
    refine ⟨_, rfl, sp, ns, 0, rfl, hS0, hl0, by decide, by decide, fun p H1 np hP1 s1 => ?_⟩
    have sO : ∀ {G G' : Hp}, Same H G → Chs p G G' → Same H G' := fun sg c b o e => c.2 b o (ne_of_none e np) (sg b o e)
    refine ⟨_, rfl, p, rfl, hP1, fun t ts H4 ht0 ht hT t1 t3 C4 => ?_⟩
    have s4 := sO s1 C4
    refine ⟨_, rfl, p, 13, rfl, C4.1, by decide, by decide, fun wi H5 wi0 wi1 C5 => ?_⟩
    have s5 := sO s4 C5
    have ntp : t ≠ p := cell_ne C4.1 ht (by intro _ z; cases z)
    have ht5 := C5.at ntp ht
    obtain ⟨wn, rfl⟩ : ∃ wn : Nat, wi = (wn : Int) := ⟨wi.toNat, by omega⟩
    refine ⟨_, rfl, p, 7, rfl, C5.1, by decide, by decide, fun n H6 n0 n1 C6 => ⟨_, rfl, by omega, by omega, fun D hD => ?_⟩⟩
    have s6 := sO s5 C6
    have ht6 := C6.at ntp ht5
    have nD : D ≠ p := C6.1.ne hD
    have fD : H D = none := by
      cases e : H D with
      | none => rfl
      | some o => rw [s6 _ _ e] at hD; cases hD
    have ntD : t ≠ D := ne_of_none ht6 hD
    refine lc_range (lo := 0) (n := n.toNat) (fun i H' => ∃ (xs : List V) (ds : List PyData), H' D = some (.lst xs) ∧ xs.length = i ∧ Paired (DA (fun x => x = p ∨ x = D) H' 5) xs ds ∧ Cell H' p ∧ H' t = some (.dK (tabK ts)) ∧ Same H H' ∧ ∀ z ∈ ds, GoodP ts wn z)
      ⟨[], [], upd_same, rfl, .nil, C6.1.same (same_upd hD), by rw [upd_ne ntD]; exact ht6, s6.trans (same_upd hD), fun z h => nomatch h⟩ (fun i H' hi hp => ?_) (fun H7 hp => ?_)
    · obtain ⟨xs, ds, x1, x2, x3, x4, x5, x6, x7⟩ := hp
      have hi6 : i < 7 := by omega
      refine ⟨rfl, ?_⟩
      refine ⟨_, rfl, _, rfl, _, _, rfl, rfl, sp, ns, _, rfl, x6.seq hS0, hl0, by omega, by omega, fun pk H8 hk hPk s8 => ?_⟩
      have npk : pk ≠ p := x4.ne hk
      have npD : pk ≠ D := (ne_of_none x1 hk).symm
      have occ : Occ (fun x => (x = p ∨ x = D) ∨ x = pk) H8 := fun x hx => by
        rcases hx with (rfl | rfl) | rfl
        · obtain ⟨i1, i2, e⟩ := x4.same s8
          exact ⟨_, e⟩
        · exact ⟨_, s8 _ _ x1⟩
        · obtain ⟨i1, i2, e⟩ := hPk
          exact ⟨_, e⟩
      refine ⟨_, rfl, _, rfl, (fun x => (x = p ∨ x = D) ∨ x = pk), pk, t, ts, wn, rfl, .inr rfl, hPk, occ, s8 _ _ x5, hT, t1, t3, by omega, fun v hs as H9 hv g1 g2 g3 g4 C9 => ?_⟩
      have s9 : Same H' H9 := fun b o e => C9.2 b o (ne_of_none e hk) (s8 _ _ e)
      have hv' := hv.weak (C' := fun x => x = p ∨ x = D) fun x hx => .inl hx
      have kp : ∀ x o', ¬ (x = p ∨ x = D) → H9 x = some o' → upd H9 D (.lst (xs ++ [v])) x = some o' := fun x o' hn e => by
        rw [upd_ne (fun e' => hn (.inr e'))]
        exact e
      refine ⟨_, s9 _ _ x1, small1000 (by omega), xs ++ [v], ds ++ [.tuple [.tuple hs, .list as]], upd_same, by rw [List.length_append, x2]; rfl, paired_app (paired_imp (fun _ _ h => (DA.same h s9).keep kp) x3) (.cons (hv'.keep kp) .nil), ?_, ?_, fun b o e => ?_, fun z hz => ?_⟩
      · obtain ⟨i1, i2, e⟩ := x4
        exact ⟨i1, i2, by rw [upd_ne nD.symm]; exact s9 _ _ e⟩
      · rw [upd_ne ntD]
        exact s9 _ _ x5
      · rw [upd_ne (ne_of_none e fD)]
        exact s9 _ _ (x6 b o e)
      · rcases List.mem_append.mp hz with hz | hz
        · exact x7 z hz
        · rw [List.mem_singleton.mp hz]
          exact ⟨hs, as, rfl, g1, g2, g3, g4⟩
    · obtain ⟨xs, ds, x1, x2, x3, x4, x5, x6, x7⟩ := hp
      have lds := Paired.length x3
      have l6 : ds.length ≤ 6 := by omega
      have hO7 : Occ (fun x => x = p) H7 := fun x hx => by
        obtain ⟨i1, i2, e⟩ := x4
        exact ⟨_, by rw [show x = p from hx]; exact e⟩
      have hT4 := hT
      have pr7 := paired_imp (fun _ _ h => DA.weak (C' := fun x => x = p) (fun x hx => .inl hx) h) x3
      have hd7 : DA (fun x => x = p) H7 6 (.ref D) (.list ds) := .lst nD x1 (by omega) pr7
      have hP7 := x4
      have ht7 := x5
      have w12 : wn ≤ 12 := by omega
      have hdue := good_due x7 hT w12 (by omega)
      have hok5 : ∀ z ∈ ds, PtB 5 z := fun z hz => (x7 z hz).ptb hT w12
      have hok : ∀ z ∈ ds, PtOk z := fun z hz => (hok5 z hz).ok (by decide)
      have hform : ∀ z ∈ ds, ∃ hs as, z = .tuple [.tuple hs, .list as] := fun z hz => by
        obtain ⟨hs, as, e, _⟩ := x7 z hz
        exact ⟨hs, as, e⟩
      clear s1 s4 s5 s6 C4 C5 C6 ht0 ht ht5 ht6 sO hP1 x1 x2 x3 x4 x5 x6 x7 pr7 lds
      generalize hC : (fun x => x = p : Addr → Prop) = C at *
      have nC : ∀ x, x ≠ p → ¬ C x := fun x h e => by rw [← hC] at e; exact h e
      have hCp : C p := by rw [← hC]
      clear hC
      obtain ⟨b0, ts0, ets⟩ : ∃ b0 ts0, ts = b0 :: ts0 := by
        match ts, t1 with
        | b0 :: ts0, _ => exact ⟨b0, ts0, rfl⟩
      have hb0 : b0.1 ∈ ts.map (·.1) := by rw [ets]; simp
      have kn : (tabK ts).map (fun kv => kV kv.1) = (ts.map (·.1)).map V.str := by
        have h := keys_tab ts
        have : (tabK ts).map (fun kv => kV kv.1) = ((tabK ts).map (·.1)).map kV := by rw [List.map_map]; rfl
        rw [this, h, List.map_map]
        rfl
      have kat : atI ((ts.map (·.1)).map V.str) 0 = some (.str b0.1) := by rw [ets]; exact atI_nat (j := 0) rfl
      -- the schema
      refine ⟨_, rfl, t, _, rfl, .inl ht7, fun d1 f1 => ?_⟩
      have z1 := same_upd (o := .dK (tabK ts)) f1
      have e1 : upd H7 d1 (.dK (tabK ts)) d1 = some (.dK (tabK ts)) := upd_same
      generalize upd H7 d1 (.dK (tabK ts)) = G1 at z1 e1 ⊢
      intro d2 f2
      have z2 := same_upd (o := .dK []) f2
      have e2 : upd G1 d2 (.dK []) d2 = some (.dK []) := upd_same
      have e1 := z2 _ _ e1
      have s2 := z1.trans z2
      generalize upd G1 d2 (.dK []) = G2 at z2 e1 e2 s2 ⊢
      intro d3 f3
      have z3 := same_upd (o := .dK []) f3
      have n12 : d1 ≠ d3 ∧ d2 ≠ d3 := ⟨ne_of_none e1 f3, ne_of_none e2 f3⟩
      have e3 : upd G2 d3 (.dK []) d3 = some (.dK []) := upd_same
      have e1 := z3 _ _ e1
      have e2 := z3 _ _ e2
      generalize upd G2 d3 (.dK []) = G3 at z3 e1 e2 e3 ⊢
      refine ⟨_, rfl, t, _, rfl, .inl (z3 _ _ (s2 _ _ ht7)), fun L hL => ?_⟩
      rw [kn]
      have z4 := same_upd (o := .lst ((ts.map (·.1)).map V.str)) hL
      have e4 : upd G3 L (.lst ((ts.map (·.1)).map V.str)) L = some (.lst ((ts.map (·.1)).map V.str)) := upd_same
      have e1 := z4 _ _ e1
      have e2 := z4 _ _ e2
      have e3 := z4 _ _ e3
      generalize upd G3 L (.lst ((ts.map (·.1)).map V.str)) = G4 at z4 e1 e2 e3 e4 ⊢
      refine ⟨_, _, _, _, rfl, rfl, .of e4, kat, Nat.zero_le _, fun d5 f5 => ?_⟩
      have z5 := same_upd (o := .tup []) f5
      have e5 : upd G4 d5 (.tup []) d5 = some (.tup []) := upd_same
      have e1 := z5 _ _ e1
      have e2 := z5 _ _ e2
      have e3 := z5 _ _ e3
      generalize upd G4 d5 (.tup []) = G5 at z5 e1 e2 e3 e5 ⊢
      refine ⟨by show 3 ≤ sizeLine; decide, fun d6 f6 => ?_⟩
      have z6 := same_upd (o := .tup [.str b0.1, .ref d5, .non]) f6
      have e6 : upd G5 d6 (.tup [.str b0.1, .ref d5, .non]) d6 = some (.tup [.str b0.1, .ref d5, .non]) := upd_same
      have e1 := z6 _ _ e1
      have e2 := z6 _ _ e2
      have e3 := z6 _ _ e3
      have e5 := z6 _ _ e5
      generalize upd G5 d6 (.tup [.str b0.1, .ref d5, .non]) = G6 at z6 e1 e2 e3 e5 e6 ⊢
      refine ⟨e3, [(Sum.inr "z", .ref d6)], rfl, by show 1 ≤ 15; decide, ?_⟩
      have n7 : ∀ b o, b ≠ d3 → G6 b = some o → upd G6 d3 (.dK (mergeK [] [(Sum.inr "z", V.ref d6)])) b = some o := fun b o n e => by
        rw [upd_ne n]
        exact e
      have e7 : upd G6 d3 (.dK (mergeK [] [(Sum.inr "z", V.ref d6)])) d3 = some (.dK (svK [sv1 "z" d6 b0.1 d5])) := upd_same
      have z7 : Same G2 (upd G6 d3 (.dK (mergeK [] [(Sum.inr "z", V.ref d6)]))) := fun b o e => n7 b o (ne_of_none e f3) (z6 _ _ (z5 _ _ (z4 _ _ (z3 _ _ e))))
      have e1 := n7 _ _ n12.1 e1
      have e2 := n7 _ _ n12.2 e2
      have e5 := n7 _ _ (fun e => by rw [e, e3] at e5; cases e5) e5
      have e6 := n7 _ _ (fun e => by rw [e, e3] at e6; cases e6) e6
      generalize upd G6 d3 (.dK (mergeK [] [(Sum.inr "z", V.ref d6)])) = G7 at z7 e1 e2 e5 e6 e7 ⊢
      have s17 := s2.trans z7
      clear n7 z1 z2 z3 z4 z5 z6 z7 n12 f1 f2 f3 f5 f6 e4 hL s2 kat kn
      have wz : Wd "z" := ⟨by decide +kernel, by decide +kernel, by decide +kernel⟩
      refine fun x dx fx fdx ndx => mk_schema (.of e1) (.of (kvs := keyK []) e2) (.of e7) hT4 keys0 (svcs1 wz hb0 e6 e5) t1 (by omega) (by decide) (by decide) fx fdx ndx fun G8 hS s8 => ?_
      have s18 := s17.trans s8
      have hd8 := hd7.same s18
      have ht8 := s18 _ _ ht7
      have hP8 := hP7.same s18
      have hO8 := hO7.same s18
      clear e1 e2 e5 e6 e7 s17 s18 s8 hd7 ht7 hP7 hO7 fx fdx ndx ets hb0
      -- the question
      refine ⟨_, rfl, _, rfl, _, rfl, fun y dy fy fdy ndy => ?_⟩
      have z13 : Same G8 (upd (upd G8 dy (.own y)) y (.ins (a 57) dy [])) := (same_upd fdy).trans (same_upd (by rw [upd_ne ndy.symm]; exact fy))
      have hy13 : upd (upd G8 dy (.own y)) y (.ins (a 57) dy []) y = some (.ins (a 57) dy []) := upd_same
      generalize upd (upd G8 dy (.own y)) y (.ins (a 57) dy []) = G13 at z13 hy13 ⊢
      refine ⟨C, 6, y, dy, x, ts, [], _, ts.length, 1, .int wn, .ref D, .int wn, .list ds, rfl, hy13, hO8.same z13, by decide, hS.same z13, Sc.da (.int wn), hd8.same z13, fun ds' _ e' l G14 hq hl o => ⟨rfl, ?_⟩, fun sx ix he => by rw [hdue] at he; cases he⟩
      cases e'
      have s14 : Same G8 G14 := fun b o' e => o b o' (ne_of_none e fy) (z13 _ _ e)
      have hQ14 : QAt (a 57) y x C 6 G14 wn ds := ⟨dy, l, hq, hl, hform⟩
      have hS14 := hS.same s14
      have hd14 := hd8.same s14
      have hP14 := hP8.same s14
      have hO14 := hO8.same s14
      clear hS hd8 hP8 hO8 z13 hy13 o hq hl s14 ht8
      have w30 : (wn : Int) < 10 ^ 30 := by omega
      have wm30 : -(10 ^ 30 : Int) < (wn : Int) := by omega
      have wn0 : (0 : Int) ≤ (wn : Int) := by omega
      have low := lines_low wn0 w30 hok
      have lln := lines_len (w := (wn : Int)) hok
      -- the lines due, and the question's own
      refine ⟨_, rfl, _, rfl, C, 6, .ref D, wn, ds, rfl, hO14, wn0, w30, hd14, by omega, hok, fun u1 G15 f1 e1 s15 => ?_⟩
      refine ⟨_, rfl, C, 6, y, x, wn, ds, rfl, hO14.same s15, hQ14.same s15, ⟨wm30, w30⟩, hok, by omega, fun u2 G16 e2 s16 => ?_⟩
      have e1 := s16 _ _ e1
      have s1416 := s15.trans s16
      have nC1 : ¬ C u1 := hO14.new f1
      clear f1
      obtain ⟨dp1, sh1, eq1⟩ := strs_dp (K := K) e1 low
      obtain ⟨dp2, sh2, _⟩ := strs_dp (K := K) e2 low
      have kll : kitB "list" "list" = some true := by decide +kernel
      have kib : kitB "int" "bool" = some false := by decide +kernel
      refine ⟨_, rfl, _, _, _, _, _, rfl, .ty _, .base (.lst e2), kit_ty kll, _, rfl, ifF ?_⟩
      refine ⟨_, rfl, _, rfl, _, _, dp2, dp1, sh2, sh1, _, rfl, ?_⟩
      rw [eq1]
      refine ifF ?_
      -- read back
      have hS16 := hS14.same s1416
      have hd16 := hd14.same s1416
      have hP16 := hP14.same s1416
      have hO16 := hO14.same s1416
      clear hS14 hd14 hP14 hO14 hQ14 s15 s16 s1416 dp1 dp2 e2
      refine ⟨_, rfl, u1, _, rfl, .inl (.of e1), fun u3 f3 => ?_⟩
      have z3 := same_upd (o := .lst ((linesD (wn : Int) ds).map V.str)) f3
      have e3 : upd G16 u3 (.lst ((linesD (wn : Int) ds).map V.str)) u3 = some (.lst ((linesD (wn : Int) ds).map V.str)) := upd_same
      have nC3 : ¬ C u3 := hO16.new f3
      generalize upd G16 u3 (.lst ((linesD (wn : Int) ds).map V.str)) = G17 at z3 e3 ⊢
      have hmk : mkQ [] (ds.flatMap pLn) = ds := mkQ_back (ps := []) hok
      refine ⟨_, rfl, _, rfl, C, x, u3, ts, [], _, ts.length, 1, wn, [nT wn], ds.flatMap pLn, linesD wn ds, rfl, hO16.same z3, hS16.same z3, e3, by omega, lineok_all wn0 w30 hok, says_all wn0 w30 hok, pLn_q, pLn_first, ?_, fun sx ix he => by rw [hmk, hdue] at he; cases he⟩
      rw [hmk]
      intro _ yb dyb lb G18 _ hqb hlb s18
      have s1618 := z3.trans s18
      have hS18 := hS16.same s1618
      have hd18 := hd16.same s1618
      have hP18 := hP16.same s1618
      have hO18 := hO16.same s1618
      have e1 := s1618 _ _ e1
      have e3 := s18 _ _ e3
      clear hS16 hd16 hP16 hO16 s1618 z3 s18 f3
      have hQ18 : QAt (a 57) yb x C 6 G18 wn ds := ⟨dyb, lb, hqb, hlb, hform⟩
      refine ⟨_, rfl, yb, _, dyb, _, _, rfl, hqb, T.cl_57, T.no_57_width, flds_qw _ _ _, _, rfl, rfl, _, rfl, ite_nd (fun h => absurd rfl h) (fun _ => ?_)⟩
      refine ⟨_, rfl, yb, _, dyb, _, _, rfl, hqb, T.cl_57, T.no_57_width, flds_qw _ _ _, _, _, _, _, _, rfl, .ty _, .base (.int _), kit_ty kib, _, rfl, ifF ?_⟩
      refine ⟨_, rfl, yb, dyb, _, rfl, hqb, rfl, C, 6, yb, x, wn, ds, rfl, hO18, hQ18, fun l2 G19 hl2 s19 => ?_⟩
      have hd19 := hd18.same s19
      refine ⟨_, rfl, .list ds, .list ds, hl2.dp, hd19.dp, hl2.shaped (by decide), hd19.shaped (by decide), _, rfl, ?_⟩
      rw [hd19.refl]
      refine ifF ?_
      obtain ⟨dp1, _, _⟩ := strs_dp (K := K) (s19 _ _ e1) low
      obtain ⟨dp3, _, _⟩ := strs_dp (K := K) (s19 _ _ e3) low
      refine ⟨_, rfl, _, rfl, _, _, dp3, dp1, sh1, sh1, _, rfl, ?_⟩
      rw [eq1]
      refine ifF ?_
      have hS19 := hS18.same s19
      have hP19 := hP18.same s19
      have hO19 := hO18.same s19
      have hqb := s19 _ _ hqb
      have hQ19 := hQ18.same s19
      have e1 := s19 _ _ e1
      clear hS18 hd18 hP18 hO18 hQ18 dp1 dp3 hl2 hlb s19
      refine ⟨_, rfl, C, 6, yb, x, wn, ds, rfl, hO19, hQ19, ⟨wm30, w30⟩, hok, by omega, fun u4 G20 e4 s20 => ?_⟩
      obtain ⟨dp1, _, _⟩ := strs_dp (K := K) (s20 _ _ e1) low
      obtain ⟨dp4, _, _⟩ := strs_dp (K := K) e4 low
      refine ⟨_, rfl, _, _, dp4, dp1, sh1, sh1, _, rfl, ?_⟩
      rw [eq1]
      refine ifF ?_
      have hS20 := hS19.same s20
      have hP20 := hP19.same s20
      have hO20 := hO19.same s20
      have hd20 := hd19.same s20
      have hqb := s20 _ _ hqb
      clear hS19 hP19 hO19 hd19 hQ19 dp1 dp4 e4 e1 e3 s20
      obtain ⟨dz, _, _, _, O⟩ := id hS20
      refine ⟨_, rfl, yb, _, dyb, _, _, rfl, hqb, T.cl_57, T.no_57_schema, flds_qs _ _ _, _, rfl, x, x, dz, dz, _, _, rfl, rfl, O.ob, O.ob, x, x, ts, _, _, _, _, ts, _, _, _, _, rfl, hS20, hS20, _, rfl, _, rfl, ?_⟩
      rw [schB_refl O.hT O.hK O.hS]
      refine ifF ?_
      clear O
      -- changed parts
      refine ⟨_, rfl, _, rfl, C, p, .ref D, ds, rfl, hCp, hP20, hO20, hd20, by omega, hok5, fun l3 ds3 G21 d3 n3 ok3 C21 => ?_⟩
      have hS21 := sch_chs0 hS20 hP20 C21
      have hO21 := hO20.chs C21
      have hd21 := hd20.chs C21 hCp
      have hP21 := C21.1
      clear hS20 hP20 hO20 hd20 C21 hqb
      refine ⟨_, rfl, _, rfl, _, rfl, C, 6, .ref l3, wn, ds3, rfl, hO21, wn0, w30, d3, by omega, ok3, fun u5 G22 f5 e5 s22 => ?_⟩
      refine ⟨C, x, u5, ts, _, _, _, _, wn, ds3, rfl, hO21.same s22, hS21.same s22, e5, wn0, w30, by omega, ok3, ?_⟩
      refine ToldQ.mono (fun v H h => ⟨_, rfl, _, rfl, _, rfl, h⟩) (cmp_told (E := fun _ _ _ => False) (hO21.same s22) (hS21.same s22) (d3.same s22) fun v1 v2 d G23 d1 d2 s23 => ?_)
      refine ⟨_, _, d1.dp, d2.dp, d1.shaped (by decide), d2.shaped (by decide), _, rfl, ?_⟩
      rw [d1.refl]
      refine ifF ?_
      have s2123 := s22.trans s23
      have hS23 := hS21.same s2123
      have hO23 := hO21.same s2123
      have hd23 := hd21.same s2123
      have hP23 := hP21.same s2123
      clear hS21 hO21 hd21 hP21 s2123 s22 s23 d1 d2 d3 e5 f5
      -- another width
      refine ⟨_, _, rfl, rfl, ⟨by decide, by decide, by decide⟩, _, _, rfl, rfl, _, rfl, _, _, rfl, rfl, by show 5 ≤ sizeLine; decide, fun L hL => ?_⟩
      have zL := same_upd (o := .lst [.int 0, .int 12, .int 13, .int ((10 : Int) ^ (30 : Int).toNat - 1), .int ((wn : Int) + 1)]) hL
      have eL : upd G23 L (.lst [.int 0, .int 12, .int 13, .int ((10 : Int) ^ (30 : Int).toNat - 1), .int ((wn : Int) + 1)]) L = some (.lst [.int 0, .int 12, .int 13, .int ((10 : Int) ^ (30 : Int).toNat - 1), .int ((wn : Int) + 1)]) := upd_same
      have nL : L ≠ p := hP23.ne hL
      generalize upd G23 L (.lst [.int 0, .int 12, .int 13, .int ((10 : Int) ^ (30 : Int).toNat - 1), .int ((wn : Int) + 1)]) = G24 at zL eL ⊢
      refine ⟨_, rfl, p, 5, rfl, hP23.same zL, by decide, by decide, fun r G25 r0 r1 C25 => ?_⟩
      have e30 : (10 : Int) ^ (30 : Int).toNat = 10 ^ 30 := by decide +kernel
      obtain ⟨v, hv⟩ := at_some (xs := [V.int 0, .int 12, .int 13, .int ((10 : Int) ^ (30 : Int).toNat - 1), .int ((wn : Int) + 1)]) r0 r1
      have hw : ∃ o : Int, v = .int o ∧ 0 ≤ o ∧ o < 10 ^ 30 := by
        have hm := atI_mem hv
        simp only [List.mem_cons, List.not_mem_nil, or_false] at hm
        rcases hm with rfl | rfl | rfl | rfl | rfl
        · exact ⟨0, rfl, by decide, by decide⟩
        · exact ⟨12, rfl, by decide, by decide⟩
        · exact ⟨13, rfl, by decide, by decide⟩
        · exact ⟨_, rfl, by rw [e30]; decide, by rw [e30]; decide⟩
        · exact ⟨_, rfl, by omega, by omega⟩
      obtain ⟨o, rfl, o0, o30⟩ := hw
      refine ⟨_, _, _, _, rfl, rfl, .of (C25.at nL eL), hv, ?_⟩
      have hS25 := sch_chs0 (hS23.same zL) (hP23.same zL) C25
      have hO25 := (hO23.same zL).chs C25
      have hd25 := (hd23.same zL).chs C25 hCp
      clear hS23 hO23 hd23 hP23 zL eL C25
      refine ⟨_, rfl, _, rfl, _, rfl, C, 6, .ref D, o, ds, rfl, hO25, o0, o30, hd25, by omega, hok, fun u6 G26 f6 e6 s26 => ?_⟩
      refine ⟨C, x, u6, ts, _, _, _, _, o, ds, rfl, hO25.same s26, hS25.same s26, e6, o0, o30, by omega, hok, ?_⟩
      refine ToldQ.mono (fun v H h => ⟨_, rfl, _, rfl, _, rfl, h⟩) (cmp_told (E := fun _ _ _ => False) (hO25.same s26) (hS25.same s26) (hd25.same s26) fun v1 v2 d G27 d1 d2 s27 => ?_)
      refine ⟨_, _, d1.dp, d2.dp, d1.shaped (by decide), d2.shaped (by decide), ?_⟩
      rw [d1.refl]
      exact q G27
end
theorem len1 {P : List Value → Prop} (h : ∀ x0, P [x0]) : (us : List Value) → us.length = 1 → P us
  | [_], _ => h _
theorem len2 {P : List Value → Prop} (h : ∀ x0 x1, P [x0, x1]) : (us : List Value) → us.length = 2 → P us
  | [_, _], _ => h _ _
theorem len3 {P : List Value → Prop} (h : ∀ x0 x1 x2, P [x0, x1, x2]) : (us : List Value) → us.length = 3 → P us
  | [_, _, _], _ => h _ _ _
theorem len4 {P : List Value → Prop} (h : ∀ x0 x1 x2 x3, P [x0, x1, x2, x3]) : (us : List Value) → us.length = 4 → P us
  | [_, _, _, _], _ => h _ _ _ _
theorem all_mk {P : Program} {w : World} {K : PySem.W.Frag} {h : Heap} {mg : Str → Option Value} {fa : Addr} (X : K.In h) (G : h.Ns mainGlobals mg) (hfa : mg "law" = some (.ref fa))
    {f1700 : Addr} {od1700 an1700 : Option Addr} {sl1700 : Array (Option Value)} {oc1700 kV1700 dc1700 pm1700 cd1700 ct1700 : Value}
    {f12 : Addr} {od12 an12 : Option Addr} {sl12 : Array (Option Value)} {oc12 kV12 dc12 pm12 cd12 ct12 : Value}
    {f13 : Addr} {od13 an13 : Option Addr} {sl13 : Array (Option Value)} {oc13 kV13 dc13 pm13 cd13 ct13 : Value}
    {f14 : Addr} {od14 an14 : Option Addr} {sl14 : Array (Option Value)} {oc14 kV14 dc14 pm14 cd14 ct14 : Value}
    {f16 : Addr} {od16 an16 : Option Addr} {sl16 : Array (Option Value)} {oc16 kV16 dc16 pm16 cd16 ct16 : Value}
    {f17 : Addr} {od17 an17 : Option Addr} {sl17 : Array (Option Value)} {oc17 kV17 dc17 pm17 cd17 ct17 : Value}
    {f18 : Addr} {od18 an18 : Option Addr} {sl18 : Array (Option Value)} {oc18 kV18 dc18 pm18 cd18 ct18 : Value}
    {f19 : Addr} {od19 an19 : Option Addr} {sl19 : Array (Option Value)} {oc19 kV19 dc19 pm19 cd19 ct19 : Value}
    {f32 : Addr} {od32 an32 : Option Addr} {sl32 : Array (Option Value)} {oc32 kV32 dc32 pm32 cd32 ct32 : Value}
    {f33 : Addr} {od33 an33 : Option Addr} {sl33 : Array (Option Value)} {oc33 kV33 dc33 pm33 cd33 ct33 : Value}
    {f34 : Addr} {od34 an34 : Option Addr} {sl34 : Array (Option Value)} {oc34 kV34 dc34 pm34 cd34 ct34 : Value}
    {f35 : Addr} {od35 an35 : Option Addr} {sl35 : Array (Option Value)} {oc35 kV35 dc35 pm35 cd35 ct35 : Value}
    {f36 : Addr} {od36 an36 : Option Addr} {sl36 : Array (Option Value)} {oc36 kV36 dc36 pm36 cd36 ct36 : Value}
    {f37 : Addr} {od37 an37 : Option Addr} {sl37 : Array (Option Value)} {oc37 kV37 dc37 pm37 cd37 ct37 : Value}
    {f38 : Addr} {od38 an38 : Option Addr} {sl38 : Array (Option Value)} {oc38 kV38 dc38 pm38 cd38 ct38 : Value}
    {f39 : Addr} {od39 an39 : Option Addr} {sl39 : Array (Option Value)} {oc39 kV39 dc39 pm39 cd39 ct39 : Value}
    {f40 : Addr} {od40 an40 : Option Addr} {sl40 : Array (Option Value)} {oc40 kV40 dc40 pm40 cd40 ct40 : Value}
    {f41 : Addr} {od41 an41 : Option Addr} {sl41 : Array (Option Value)} {oc41 kV41 dc41 pm41 cd41 ct41 : Value}
    {f42 : Addr} {od42 an42 : Option Addr} {sl42 : Array (Option Value)} {oc42 kV42 dc42 pm42 cd42 ct42 : Value}
    {f5300 : Addr} {od5300 an5300 : Option Addr} {sl5300 : Array (Option Value)} {oc5300 kV5300 dc5300 pm5300 cd5300 ct5300 : Value}
    {f5301 : Addr} {od5301 an5301 : Option Addr} {sl5301 : Array (Option Value)} {oc5301 kV5301 dc5301 pm5301 cd5301 ct5301 : Value}
    {f5304 : Addr} {od5304 an5304 : Option Addr} {sl5304 : Array (Option Value)} {oc5304 kV5304 dc5304 pm5304 cd5304 ct5304 : Value}
    {f49 : Addr} {od49 an49 : Option Addr} {sl49 : Array (Option Value)} {oc49 kV49 dc49 pm49 cd49 ct49 : Value}
    {f50 : Addr} {od50 an50 : Option Addr} {sl50 : Array (Option Value)} {oc50 kV50 dc50 pm50 cd50 ct50 : Value}
    {f51 : Addr} {od51 an51 : Option Addr} {sl51 : Array (Option Value)} {oc51 kV51 dc51 pm51 cd51 ct51 : Value}
    {f52 : Addr} {od52 an52 : Option Addr} {sl52 : Array (Option Value)} {oc52 kV52 dc52 pm52 cd52 ct52 : Value}
    {f53 : Addr} {od53 an53 : Option Addr} {sl53 : Array (Option Value)} {oc53 kV53 dc53 pm53 cd53 ct53 : Value}
    {f6700 : Addr} {od6700 an6700 : Option Addr} {sl6700 : Array (Option Value)} {oc6700 kV6700 dc6700 pm6700 cd6700 ct6700 : Value}
    {f6701 : Addr} {od6701 an6701 : Option Addr} {sl6701 : Array (Option Value)} {oc6701 kV6701 dc6701 pm6701 cd6701 ct6701 : Value}
    {f1800 : Addr} {od1800 an1800 : Option Addr} {sl1800 : Array (Option Value)} {oc1800 kV1800 dc1800 pm1800 cd1800 ct1800 : Value}
    {f60 : Addr} {od60 an60 : Option Addr} {sl60 : Array (Option Value)} {oc60 kV60 dc60 pm60 cd60 ct60 : Value}
    {f61 : Addr} {od61 an61 : Option Addr} {sl61 : Array (Option Value)} {oc61 kV61 dc61 pm61 cd61 ct61 : Value}
    {f62 : Addr} {od62 an62 : Option Addr} {sl62 : Array (Option Value)} {oc62 kV62 dc62 pm62 cd62 ct62 : Value}
    {f63 : Addr} {od63 an63 : Option Addr} {sl63 : Array (Option Value)} {oc63 kV63 dc63 pm63 cd63 ct63 : Value}
    {f65 : Addr} {od65 an65 : Option Addr} {sl65 : Array (Option Value)} {oc65 kV65 dc65 pm65 cd65 ct65 : Value}
    {f66 : Addr} {od66 an66 : Option Addr} {sl66 : Array (Option Value)} {oc66 kV66 dc66 pm66 cd66 ct66 : Value}
    {f67 : Addr} {od67 an67 : Option Addr} {sl67 : Array (Option Value)} {oc67 kV67 dc67 pm67 cd67 ct67 : Value}
    {f69 : Addr} {od69 an69 : Option Addr} {sl69 : Array (Option Value)} {oc69 kV69 dc69 pm69 cd69 ct69 : Value}
    {f70 : Addr} {od70 an70 : Option Addr} {sl70 : Array (Option Value)} {oc70 kV70 dc70 pm70 cd70 ct70 : Value}
    {f71 : Addr} {od71 an71 : Option Addr} {sl71 : Array (Option Value)} {oc71 kV71 dc71 pm71 cd71 ct71 : Value}
    {f73 : Addr} {od73 an73 : Option Addr} {sl73 : Array (Option Value)} {oc73 kV73 dc73 pm73 cd73 ct73 : Value}
    {f74 : Addr} {od74 an74 : Option Addr} {sl74 : Array (Option Value)} {oc74 kV74 dc74 pm74 cd74 ct74 : Value}
    {f75 : Addr} {od75 an75 : Option Addr} {sl75 : Array (Option Value)} {oc75 kV75 dc75 pm75 cd75 ct75 : Value}
    {f76 : Addr} {od76 an76 : Option Addr} {sl76 : Array (Option Value)} {oc76 kV76 dc76 pm76 cd76 ct76 : Value}
    {f77 : Addr} {od77 an77 : Option Addr} {sl77 : Array (Option Value)} {oc77 kV77 dc77 pm77 cd77 ct77 : Value}
    {f78 : Addr} {od78 an78 : Option Addr} {sl78 : Array (Option Value)} {oc78 kV78 dc78 pm78 cd78 ct78 : Value}
    {f79 : Addr} {od79 an79 : Option Addr} {sl79 : Array (Option Value)} {oc79 kV79 dc79 pm79 cd79 ct79 : Value}
    {f80 : Addr} {od80 an80 : Option Addr} {sl80 : Array (Option Value)} {oc80 kV80 dc80 pm80 cd80 ct80 : Value}
    {f81 : Addr} {od81 an81 : Option Addr} {sl81 : Array (Option Value)} {oc81 kV81 dc81 pm81 cd81 ct81 : Value}
    {f82 : Addr} {od82 an82 : Option Addr} {sl82 : Array (Option Value)} {oc82 kV82 dc82 pm82 cd82 ct82 : Value}
    {f83 : Addr} {od83 an83 : Option Addr} {sl83 : Array (Option Value)} {oc83 kV83 dc83 pm83 cd83 ct83 : Value}
    {f84 : Addr} {od84 an84 : Option Addr} {sl84 : Array (Option Value)} {oc84 kV84 dc84 pm84 cd84 ct84 : Value}
    {f85 : Addr} {od85 an85 : Option Addr} {sl85 : Array (Option Value)} {oc85 kV85 dc85 pm85 cd85 ct85 : Value}
    {f2 : Addr}
    {nm_2 qn_2 : Str} {N_2 : Addr} {bs_2 : List Value} {sn_2 : List Str} {sub_2 : List Value} {ab_2 : Bool} {col_2 : Option Bool} {dd_2 : Option Addr} {m0_2 m1_2 m2_2 m3_2 m5_2 : Option Value}
    {f5 : Addr}
    {nm_5 qn_5 : Str} {N_5 : Addr} {bs_5 : List Value} {sn_5 : List Str} {sub_5 : List Value} {ab_5 : Bool} {col_5 : Option Bool} {dd_5 : Option Addr} {m0_5 m1_5 m2_5 m3_5 m5_5 : Option Value}
    {f7 : Addr}
    {nm_7 qn_7 : Str} {N_7 : Addr} {bs_7 : List Value} {sn_7 : List Str} {sub_7 : List Value} {ab_7 : Bool} {col_7 : Option Bool} {dd_7 : Option Addr} {m0_7 m1_7 m2_7 m3_7 m5_7 : Option Value}
    {f8 : Addr}
    {nm_8 qn_8 : Str} {N_8 : Addr} {bs_8 : List Value} {sn_8 : List Str} {sub_8 : List Value} {ab_8 : Bool} {col_8 : Option Bool} {dd_8 : Option Addr} {m0_8 m1_8 m2_8 m3_8 m5_8 : Option Value}
    {f43 : Addr}
    {f57 : Addr}
    {fq90064_question fu90064_question : Addr} {oq90064_question ou90064_question : Obj} {nq90064_question nu90064_question : Nat}
    {fq90064_part fu90064_part : Addr} {oq90064_part ou90064_part : Obj} {nq90064_part nu90064_part : Nat}
    {fq90064_atom fu90064_atom : Addr} {oq90064_atom ou90064_atom : Obj} {nq90064_atom nu90064_atom : Nat}
    {ew90064 : Array DictEntry} {nw90064 : Nat}
    {f90064 : Addr}
    {f55301 : Addr} {rest5301 : List Value}
    (ac_2 : PySem.W.nsIn K mainGlobals "CappedError" = some (some (.ref f2)))
    (ac_5 : PySem.W.nsIn K mainGlobals "LimitExceeded" = some (some (.ref f5)))
    (ac_7 : PySem.W.nsIn K mainGlobals "InvalidQuestion" = some (some (.ref f7)))
    (ac_8 : PySem.W.nsIn K mainGlobals "InvalidLine" = some (some (.ref f8)))
    (ac_43 : PySem.W.nsIn K mainGlobals "Schema" = some (some (.ref f43)))
    (ac_57 : PySem.W.nsIn K mainGlobals "Question" = some (some (.ref f57)))
    (ac_90064 : PySem.W.nsIn K mainGlobals "_QUESTION_FORMS" = some (some (.ref f90064)))
    (fi_7 : PySem.W.findIn K (.ref f7) "__init__" = some (some (.ref f1700)))
    (fi_8 : PySem.W.findIn K (.ref f8) "__init__" = some (some (.ref f1800)))
    (fi_43 : PySem.W.findIn K (.ref f43) "__init__" = some (some (.ref f5300)))
    (fi_57 : PySem.W.findIn K (.ref f57) "__init__" = some (some (.ref f6700)))
    (ma_5304 : PySem.W.findIn K (.ref f43) "__eq__" = some (some (.ref f5304)))
    (ma_6701 : PySem.W.findIn K (.ref f57) "part_list" = some (some (.ref f6701)))
    (pa_5301 : PySem.W.findIn K (.ref f43) "tables" = some (some (.ref f55301)))
    (pd_5301 : PySem.W.recIn K f55301 "property" = some (.ref f5301 :: rest5301))
    (l1700 : K.lookup f1700 = some ⟨oc1700, od1700, .func (PySem.W.fnOf "__init__" "InvalidQuestion.__init__" (defArgs s_InvalidQuestion___init__) (defBody s_InvalidQuestion___init__) (defScope s_InvalidQuestion___init__) .none kV1700 dc1700 pm1700 an1700 cd1700 ct1700), sl1700⟩) (c1700 : PySem.W.codeIn K cd1700 "InvalidQuestion.__init__" = true) (k1700 : PySem.W.keepIn K (.ref f1700) = true)
    (a12 : PySem.W.nsIn K mainGlobals "is_plain_int" = some (some (.ref f12))) (l12 : K.lookup f12 = some ⟨oc12, od12, .func (PySem.W.fnOf "is_plain_int" "is_plain_int" (defArgs s_is_plain_int) (defBody s_is_plain_int) (defScope s_is_plain_int) .none kV12 dc12 pm12 an12 cd12 ct12), sl12⟩) (c12 : PySem.W.codeIn K cd12 "is_plain_int" = true) (k12 : PySem.W.keepIn K (.ref f12) = true)
    (a13 : PySem.W.nsIn K mainGlobals "is_word" = some (some (.ref f13))) (l13 : K.lookup f13 = some ⟨oc13, od13, .func (PySem.W.fnOf "is_word" "is_word" (defArgs s_is_word) (defBody s_is_word) (defScope s_is_word) .none kV13 dc13 pm13 an13 cd13 ct13), sl13⟩) (c13 : PySem.W.codeIn K cd13 "is_word" = true) (k13 : PySem.W.keepIn K (.ref f13) = true)
    (a14 : PySem.W.nsIn K mainGlobals "is_value" = some (some (.ref f14))) (l14 : K.lookup f14 = some ⟨oc14, od14, .func (PySem.W.fnOf "is_value" "is_value" (defArgs s_is_value) (defBody s_is_value) (defScope s_is_value) .none kV14 dc14 pm14 an14 cd14 ct14), sl14⟩) (c14 : PySem.W.codeIn K cd14 "is_value" = true) (k14 : PySem.W.keepIn K (.ref f14) = true)
    (a16 : PySem.W.nsIn K mainGlobals "is_variable" = some (some (.ref f16))) (l16 : K.lookup f16 = some ⟨oc16, od16, .func (PySem.W.fnOf "is_variable" "is_variable" (defArgs s_is_variable) (defBody s_is_variable) (defScope s_is_variable) .none kV16 dc16 pm16 an16 cd16 ct16), sl16⟩) (c16 : PySem.W.codeIn K cd16 "is_variable" = true) (k16 : PySem.W.keepIn K (.ref f16) = true)
    (a17 : PySem.W.nsIn K mainGlobals "is_term" = some (some (.ref f17))) (l17 : K.lookup f17 = some ⟨oc17, od17, .func (PySem.W.fnOf "is_term" "is_term" (defArgs s_is_term) (defBody s_is_term) (defScope s_is_term) .none kV17 dc17 pm17 an17 cd17 ct17), sl17⟩) (c17 : PySem.W.codeIn K cd17 "is_term" = true) (k17 : PySem.W.keepIn K (.ref f17) = true)
    (a18 : PySem.W.nsIn K mainGlobals "term_variables" = some (some (.ref f18))) (l18 : K.lookup f18 = some ⟨oc18, od18, .func (PySem.W.fnOf "term_variables" "term_variables" (defArgs s_term_variables) (defBody s_term_variables) (defScope s_term_variables) .none kV18 dc18 pm18 an18 cd18 ct18), sl18⟩) (c18 : PySem.W.codeIn K cd18 "term_variables" = true) (k18 : PySem.W.keepIn K (.ref f18) = true)
    (a19 : PySem.W.nsIn K mainGlobals "atom_variables" = some (some (.ref f19))) (l19 : K.lookup f19 = some ⟨oc19, od19, .func (PySem.W.fnOf "atom_variables" "atom_variables" (defArgs s_atom_variables) (defBody s_atom_variables) (defScope s_atom_variables) .none kV19 dc19 pm19 an19 cd19 ct19), sl19⟩) (c19 : PySem.W.codeIn K cd19 "atom_variables" = true) (k19 : PySem.W.keepIn K (.ref f19) = true)
    (a32 : PySem.W.nsIn K mainGlobals "_is_count" = some (some (.ref f32))) (l32 : K.lookup f32 = some ⟨oc32, od32, .func (PySem.W.fnOf "_is_count" "_is_count" (defArgs s__is_count) (defBody s__is_count) (defScope s__is_count) .none kV32 dc32 pm32 an32 cd32 ct32), sl32⟩) (c32 : PySem.W.codeIn K cd32 "_is_count" = true) (k32 : PySem.W.keepIn K (.ref f32) = true)
    (a33 : PySem.W.nsIn K mainGlobals "_is_name_in" = some (some (.ref f33))) (l33 : K.lookup f33 = some ⟨oc33, od33, .func (PySem.W.fnOf "_is_name_in" "_is_name_in" (defArgs s__is_name_in) (defBody s__is_name_in) (defScope s__is_name_in) .none kV33 dc33 pm33 an33 cd33 ct33), sl33⟩) (c33 : PySem.W.codeIn K cd33 "_is_name_in" = true) (k33 : PySem.W.keepIn K (.ref f33) = true)
    (a34 : PySem.W.nsIn K mainGlobals "_are_columns" = some (some (.ref f34))) (l34 : K.lookup f34 = some ⟨oc34, od34, .func (PySem.W.fnOf "_are_columns" "_are_columns" (defArgs s__are_columns) (defBody s__are_columns) (defScope s__are_columns) .none kV34 dc34 pm34 an34 cd34 ct34), sl34⟩) (c34 : PySem.W.codeIn K cd34 "_are_columns" = true) (k34 : PySem.W.keepIn K (.ref f34) = true)
    (a35 : PySem.W.nsIn K mainGlobals "_is_key" = some (some (.ref f35))) (l35 : K.lookup f35 = some ⟨oc35, od35, .func (PySem.W.fnOf "_is_key" "_is_key" (defArgs s__is_key) (defBody s__is_key) (defScope s__is_key) .none kV35 dc35 pm35 an35 cd35 ct35), sl35⟩) (c35 : PySem.W.codeIn K cd35 "_is_key" = true) (k35 : PySem.W.keepIn K (.ref f35) = true)
    (a36 : PySem.W.nsIn K mainGlobals "_is_service" = some (some (.ref f36))) (l36 : K.lookup f36 = some ⟨oc36, od36, .func (PySem.W.fnOf "_is_service" "_is_service" (defArgs s__is_service) (defBody s__is_service) (defScope s__is_service) .none kV36 dc36 pm36 an36 cd36 ct36), sl36⟩) (c36 : PySem.W.codeIn K cd36 "_is_service" = true) (k36 : PySem.W.keepIn K (.ref f36) = true)
    (a37 : PySem.W.nsIn K mainGlobals "_is_whole_service" = some (some (.ref f37))) (l37 : K.lookup f37 = some ⟨oc37, od37, .func (PySem.W.fnOf "_is_whole_service" "_is_whole_service" (defArgs s__is_whole_service) (defBody s__is_whole_service) (defScope s__is_whole_service) .none kV37 dc37 pm37 an37 cd37 ct37), sl37⟩) (c37 : PySem.W.codeIn K cd37 "_is_whole_service" = true) (k37 : PySem.W.keepIn K (.ref f37) = true)
    (a38 : PySem.W.nsIn K mainGlobals "_check_tables" = some (some (.ref f38))) (l38 : K.lookup f38 = some ⟨oc38, od38, .func (PySem.W.fnOf "_check_tables" "_check_tables" (defArgs s__check_tables) (defBody s__check_tables) (defScope s__check_tables) .none kV38 dc38 pm38 an38 cd38 ct38), sl38⟩) (c38 : PySem.W.codeIn K cd38 "_check_tables" = true) (k38 : PySem.W.keepIn K (.ref f38) = true)
    (a39 : PySem.W.nsIn K mainGlobals "_check_keys" = some (some (.ref f39))) (l39 : K.lookup f39 = some ⟨oc39, od39, .func (PySem.W.fnOf "_check_keys" "_check_keys" (defArgs s__check_keys) (defBody s__check_keys) (defScope s__check_keys) .none kV39 dc39 pm39 an39 cd39 ct39), sl39⟩) (c39 : PySem.W.codeIn K cd39 "_check_keys" = true) (k39 : PySem.W.keepIn K (.ref f39) = true)
    (a40 : PySem.W.nsIn K mainGlobals "_check_services" = some (some (.ref f40))) (l40 : K.lookup f40 = some ⟨oc40, od40, .func (PySem.W.fnOf "_check_services" "_check_services" (defArgs s__check_services) (defBody s__check_services) (defScope s__check_services) .none kV40 dc40 pm40 an40 cd40 ct40), sl40⟩) (c40 : PySem.W.codeIn K cd40 "_check_services" = true) (k40 : PySem.W.keepIn K (.ref f40) = true)
    (a41 : PySem.W.nsIn K mainGlobals "_check_capped" = some (some (.ref f41))) (l41 : K.lookup f41 = some ⟨oc41, od41, .func (PySem.W.fnOf "_check_capped" "_check_capped" (defArgs s__check_capped) (defBody s__check_capped) (defScope s__check_capped) .none kV41 dc41 pm41 an41 cd41 ct41), sl41⟩) (c41 : PySem.W.codeIn K cd41 "_check_capped" = true) (k41 : PySem.W.keepIn K (.ref f41) = true)
    (a42 : PySem.W.nsIn K mainGlobals "_copied" = some (some (.ref f42))) (l42 : K.lookup f42 = some ⟨oc42, od42, .func (PySem.W.fnOf "_copied" "_copied" (defArgs s__copied) (defBody s__copied) (defScope s__copied) .none kV42 dc42 pm42 an42 cd42 ct42), sl42⟩) (c42 : PySem.W.codeIn K cd42 "_copied" = true) (k42 : PySem.W.keepIn K (.ref f42) = true)
    (l5300 : K.lookup f5300 = some ⟨oc5300, od5300, .func (PySem.W.fnOf "__init__" "Schema.__init__" (defArgs s_Schema___init__) (defBody s_Schema___init__) (defScope s_Schema___init__) .none kV5300 dc5300 pm5300 an5300 cd5300 ct5300), sl5300⟩) (c5300 : PySem.W.codeIn K cd5300 "Schema.__init__" = true) (k5300 : PySem.W.keepIn K (.ref f5300) = true)
    (l5301 : K.lookup f5301 = some ⟨oc5301, od5301, .func (PySem.W.fnOf "tables" "Schema.tables" (defArgs s_Schema_tables) (defBody s_Schema_tables) (defScope s_Schema_tables) .none kV5301 dc5301 pm5301 an5301 cd5301 ct5301), sl5301⟩) (c5301 : PySem.W.codeIn K cd5301 "Schema.tables" = true) (k5301 : PySem.W.keepIn K (.ref f5301) = true)
    (l5304 : K.lookup f5304 = some ⟨oc5304, od5304, .func (PySem.W.fnOf "__eq__" "Schema.__eq__" (defArgs s_Schema___eq__) (defBody s_Schema___eq__) (defScope s_Schema___eq__) .none kV5304 dc5304 pm5304 an5304 cd5304 ct5304), sl5304⟩) (c5304 : PySem.W.codeIn K cd5304 "Schema.__eq__" = true) (k5304 : PySem.W.keepIn K (.ref f5304) = true)
    (a49 : PySem.W.nsIn K mainGlobals "_is_atom" = some (some (.ref f49))) (l49 : K.lookup f49 = some ⟨oc49, od49, .func (PySem.W.fnOf "_is_atom" "_is_atom" (defArgs s__is_atom) (defBody s__is_atom) (defScope s__is_atom) .none kV49 dc49 pm49 an49 cd49 ct49), sl49⟩) (c49 : PySem.W.codeIn K cd49 "_is_atom" = true) (k49 : PySem.W.keepIn K (.ref f49) = true)
    (a50 : PySem.W.nsIn K mainGlobals "_has_form" = some (some (.ref f50))) (l50 : K.lookup f50 = some ⟨oc50, od50, .func (PySem.W.fnOf "_has_form" "_has_form" (defArgs s__has_form) (defBody s__has_form) (defScope s__has_form) .none kV50 dc50 pm50 an50 cd50 ct50), sl50⟩) (c50 : PySem.W.codeIn K cd50 "_has_form" = true) (k50 : PySem.W.keepIn K (.ref f50) = true)
    (a51 : PySem.W.nsIn K mainGlobals "_are_terms" = some (some (.ref f51))) (l51 : K.lookup f51 = some ⟨oc51, od51, .func (PySem.W.fnOf "_are_terms" "_are_terms" (defArgs s__are_terms) (defBody s__are_terms) (defScope s__are_terms) .none kV51 dc51 pm51 an51 cd51 ct51), sl51⟩) (c51 : PySem.W.codeIn K cd51 "_are_terms" = true) (k51 : PySem.W.keepIn K (.ref f51) = true)
    (a52 : PySem.W.nsIn K mainGlobals "_wrong_part" = some (some (.ref f52))) (l52 : K.lookup f52 = some ⟨oc52, od52, .func (PySem.W.fnOf "_wrong_part" "_wrong_part" (defArgs s__wrong_part) (defBody s__wrong_part) (defScope s__wrong_part) .none kV52 dc52 pm52 an52 cd52 ct52), sl52⟩) (c52 : PySem.W.codeIn K cd52 "_wrong_part" = true) (k52 : PySem.W.keepIn K (.ref f52) = true)
    (a53 : PySem.W.nsIn K mainGlobals "_check_question" = some (some (.ref f53))) (l53 : K.lookup f53 = some ⟨oc53, od53, .func (PySem.W.fnOf "_check_question" "_check_question" (defArgs s__check_question) (defBody s__check_question) (defScope s__check_question) .none kV53 dc53 pm53 an53 cd53 ct53), sl53⟩) (c53 : PySem.W.codeIn K cd53 "_check_question" = true) (k53 : PySem.W.keepIn K (.ref f53) = true)
    (l6700 : K.lookup f6700 = some ⟨oc6700, od6700, .func (PySem.W.fnOf "__init__" "Question.__init__" (defArgs s_Question___init__) (defBody s_Question___init__) (defScope s_Question___init__) .none kV6700 dc6700 pm6700 an6700 cd6700 ct6700), sl6700⟩) (c6700 : PySem.W.codeIn K cd6700 "Question.__init__" = true) (k6700 : PySem.W.keepIn K (.ref f6700) = true)
    (l6701 : K.lookup f6701 = some ⟨oc6701, od6701, .func (PySem.W.fnOf "part_list" "Question.part_list" (defArgs s_Question_part_list) (defBody s_Question_part_list) (defScope s_Question_part_list) .none kV6701 dc6701 pm6701 an6701 cd6701 ct6701), sl6701⟩) (c6701 : PySem.W.codeIn K cd6701 "Question.part_list" = true) (k6701 : PySem.W.keepIn K (.ref f6701) = true)
    (l1800 : K.lookup f1800 = some ⟨oc1800, od1800, .func (PySem.W.fnOf "__init__" "InvalidLine.__init__" (defArgs s_InvalidLine___init__) (defBody s_InvalidLine___init__) (defScope s_InvalidLine___init__) .none kV1800 dc1800 pm1800 an1800 cd1800 ct1800), sl1800⟩) (c1800 : PySem.W.codeIn K cd1800 "InvalidLine.__init__" = true) (k1800 : PySem.W.keepIn K (.ref f1800) = true)
    (a60 : PySem.W.nsIn K mainGlobals "_name" = some (some (.ref f60))) (l60 : K.lookup f60 = some ⟨oc60, od60, .func (PySem.W.fnOf "_name" "_name" (defArgs s__name) (defBody s__name) (defScope s__name) .none kV60 dc60 pm60 an60 cd60 ct60), sl60⟩) (c60 : PySem.W.codeIn K cd60 "_name" = true) (k60 : PySem.W.keepIn K (.ref f60) = true)
    (a61 : PySem.W.nsIn K mainGlobals "_number" = some (some (.ref f61))) (l61 : K.lookup f61 = some ⟨oc61, od61, .func (PySem.W.fnOf "_number" "_number" (defArgs s__number) (defBody s__number) (defScope s__number) .none kV61 dc61 pm61 an61 cd61 ct61), sl61⟩) (c61 : PySem.W.codeIn K cd61 "_number" = true) (k61 : PySem.W.keepIn K (.ref f61) = true)
    (a62 : PySem.W.nsIn K mainGlobals "_value" = some (some (.ref f62))) (l62 : K.lookup f62 = some ⟨oc62, od62, .func (PySem.W.fnOf "_value" "_value" (defArgs s__value) (defBody s__value) (defScope s__value) .none kV62 dc62 pm62 an62 cd62 ct62), sl62⟩) (c62 : PySem.W.codeIn K cd62 "_value" = true) (k62 : PySem.W.keepIn K (.ref f62) = true)
    (a63 : PySem.W.nsIn K mainGlobals "_term" = some (some (.ref f63))) (l63 : K.lookup f63 = some ⟨oc63, od63, .func (PySem.W.fnOf "_term" "_term" (defArgs s__term) (defBody s__term) (defScope s__term) .none kV63 dc63 pm63 an63 cd63 ct63), sl63⟩) (c63 : PySem.W.codeIn K cd63 "_term" = true) (k63 : PySem.W.keepIn K (.ref f63) = true)
    (a65 : PySem.W.nsIn K mainGlobals "_read" = some (some (.ref f65))) (l65 : K.lookup f65 = some ⟨oc65, od65, .func (PySem.W.fnOf "_read" "_read" (defArgs s__read) (defBody s__read) (defScope s__read) .none kV65 dc65 pm65 an65 cd65 ct65), sl65⟩) (c65 : PySem.W.codeIn K cd65 "_read" = true) (k65 : PySem.W.keepIn K (.ref f65) = true)
    (a66 : PySem.W.nsIn K mainGlobals "_read_at" = some (some (.ref f66))) (l66 : K.lookup f66 = some ⟨oc66, od66, .func (PySem.W.fnOf "_read_at" "_read_at" (defArgs s__read_at) (defBody s__read_at) (defScope s__read_at) .none kV66 dc66 pm66 an66 cd66 ct66), sl66⟩) (c66 : PySem.W.codeIn K cd66 "_read_at" = true) (k66 : PySem.W.keepIn K (.ref f66) = true)
    (a67 : PySem.W.nsIn K mainGlobals "read_question" = some (some (.ref f67))) (l67 : K.lookup f67 = some ⟨oc67, od67, .func (PySem.W.fnOf "read_question" "read_question" (defArgs s_read_question) (defBody s_read_question) (defScope s_read_question) .none kV67 dc67 pm67 an67 cd67 ct67), sl67⟩) (c67 : PySem.W.codeIn K cd67 "read_question" = true) (k67 : PySem.W.keepIn K (.ref f67) = true)
    (a69 : PySem.W.nsIn K mainGlobals "_line" = some (some (.ref f69))) (l69 : K.lookup f69 = some ⟨oc69, od69, .func (PySem.W.fnOf "_line" "_line" (defArgs s__line) (defBody s__line) (defScope s__line) .none kV69 dc69 pm69 an69 cd69 ct69), sl69⟩) (c69 : PySem.W.codeIn K cd69 "_line" = true) (k69 : PySem.W.keepIn K (.ref f69) = true)
    (a70 : PySem.W.nsIn K mainGlobals "_term_word" = some (some (.ref f70))) (l70 : K.lookup f70 = some ⟨oc70, od70, .func (PySem.W.fnOf "_term_word" "_term_word" (defArgs s__term_word) (defBody s__term_word) (defScope s__term_word) .none kV70 dc70 pm70 an70 cd70 ct70), sl70⟩) (c70 : PySem.W.codeIn K cd70 "_term_word" = true) (k70 : PySem.W.keepIn K (.ref f70) = true)
    (a71 : PySem.W.nsIn K mainGlobals "question_lines" = some (some (.ref f71))) (l71 : K.lookup f71 = some ⟨oc71, od71, .func (PySem.W.fnOf "question_lines" "question_lines" (defArgs s_question_lines) (defBody s_question_lines) (defScope s_question_lines) .none kV71 dc71 pm71 an71 cd71 ct71), sl71⟩) (c71 : PySem.W.codeIn K cd71 "question_lines" = true) (k71 : PySem.W.keepIn K (.ref f71) = true)
    (a73 : PySem.W.nsIn K mainGlobals "_law_state" = some (some (.ref f73))) (l73 : K.lookup f73 = some ⟨oc73, od73, .func (PySem.W.fnOf "_law_state" "_law_state" (defArgs s__law_state) (defBody s__law_state) (defScope s__law_state) .none kV73 dc73 pm73 an73 cd73 ct73), sl73⟩) (c73 : PySem.W.codeIn K cd73 "_law_state" = true) (k73 : PySem.W.keepIn K (.ref f73) = true)
    (a74 : PySem.W.nsIn K mainGlobals "_law_pick" = some (some (.ref f74))) (l74 : K.lookup f74 = some ⟨oc74, od74, .func (PySem.W.fnOf "_law_pick" "_law_pick" (defArgs s__law_pick) (defBody s__law_pick) (defScope s__law_pick) .none kV74 dc74 pm74 an74 cd74 ct74), sl74⟩) (c74 : PySem.W.codeIn K cd74 "_law_pick" = true) (k74 : PySem.W.keepIn K (.ref f74) = true)
    (a75 : PySem.W.nsIn K mainGlobals "_law_word" = some (some (.ref f75))) (l75 : K.lookup f75 = some ⟨oc75, od75, .func (PySem.W.fnOf "_law_word" "_law_word" (defArgs s__law_word) (defBody s__law_word) (defScope s__law_word) .none kV75 dc75 pm75 an75 cd75 ct75), sl75⟩) (c75 : PySem.W.codeIn K cd75 "_law_word" = true) (k75 : PySem.W.keepIn K (.ref f75) = true)
    (a76 : PySem.W.nsIn K mainGlobals "_law_term" = some (some (.ref f76))) (l76 : K.lookup f76 = some ⟨oc76, od76, .func (PySem.W.fnOf "_law_term" "_law_term" (defArgs s__law_term) (defBody s__law_term) (defScope s__law_term) .none kV76 dc76 pm76 an76 cd76 ct76), sl76⟩) (c76 : PySem.W.codeIn K cd76 "_law_term" = true) (k76 : PySem.W.keepIn K (.ref f76) = true)
    (a77 : PySem.W.nsIn K mainGlobals "_law_tables" = some (some (.ref f77))) (l77 : K.lookup f77 = some ⟨oc77, od77, .func (PySem.W.fnOf "_law_tables" "_law_tables" (defArgs s__law_tables) (defBody s__law_tables) (defScope s__law_tables) .none kV77 dc77 pm77 an77 cd77 ct77), sl77⟩) (c77 : PySem.W.codeIn K cd77 "_law_tables" = true) (k77 : PySem.W.keepIn K (.ref f77) = true)
    (a78 : PySem.W.nsIn K mainGlobals "_law_part" = some (some (.ref f78))) (l78 : K.lookup f78 = some ⟨oc78, od78, .func (PySem.W.fnOf "_law_part" "_law_part" (defArgs s__law_part) (defBody s__law_part) (defScope s__law_part) .none kV78 dc78 pm78 an78 cd78 ct78), sl78⟩) (c78 : PySem.W.codeIn K cd78 "_law_part" = true) (k78 : PySem.W.keepIn K (.ref f78) = true)
    (a79 : PySem.W.nsIn K mainGlobals "_law_term_word" = some (some (.ref f79))) (l79 : K.lookup f79 = some ⟨oc79, od79, .func (PySem.W.fnOf "_law_term_word" "_law_term_word" (defArgs s__law_term_word) (defBody s__law_term_word) (defScope s__law_term_word) .none kV79 dc79 pm79 an79 cd79 ct79), sl79⟩) (c79 : PySem.W.codeIn K cd79 "_law_term_word" = true) (k79 : PySem.W.keepIn K (.ref f79) = true)
    (a80 : PySem.W.nsIn K mainGlobals "_law_line" = some (some (.ref f80))) (l80 : K.lookup f80 = some ⟨oc80, od80, .func (PySem.W.fnOf "_law_line" "_law_line" (defArgs s__law_line) (defBody s__law_line) (defScope s__law_line) .none kV80 dc80 pm80 an80 cd80 ct80), sl80⟩) (c80 : PySem.W.codeIn K cd80 "_law_line" = true) (k80 : PySem.W.keepIn K (.ref f80) = true)
    (a81 : PySem.W.nsIn K mainGlobals "_law_written" = some (some (.ref f81))) (l81 : K.lookup f81 = some ⟨oc81, od81, .func (PySem.W.fnOf "_law_written" "_law_written" (defArgs s__law_written) (defBody s__law_written) (defScope s__law_written) .none kV81 dc81 pm81 an81 cd81 ct81), sl81⟩) (c81 : PySem.W.codeIn K cd81 "_law_written" = true) (k81 : PySem.W.keepIn K (.ref f81) = true)
    (a82 : PySem.W.nsIn K mainGlobals "_law_changed" = some (some (.ref f82))) (l82 : K.lookup f82 = some ⟨oc82, od82, .func (PySem.W.fnOf "_law_changed" "_law_changed" (defArgs s__law_changed) (defBody s__law_changed) (defScope s__law_changed) .none kV82 dc82 pm82 an82 cd82 ct82), sl82⟩) (c82 : PySem.W.codeIn K cd82 "_law_changed" = true) (k82 : PySem.W.keepIn K (.ref f82) = true)
    (a83 : PySem.W.nsIn K mainGlobals "_law_made" = some (some (.ref f83))) (l83 : K.lookup f83 = some ⟨oc83, od83, .func (PySem.W.fnOf "_law_made" "_law_made" (defArgs s__law_made) (defBody s__law_made) (defScope s__law_made) .none kV83 dc83 pm83 an83 cd83 ct83), sl83⟩) (c83 : PySem.W.codeIn K cd83 "_law_made" = true) (k83 : PySem.W.keepIn K (.ref f83) = true)
    (a84 : PySem.W.nsIn K mainGlobals "_law_read" = some (some (.ref f84))) (l84 : K.lookup f84 = some ⟨oc84, od84, .func (PySem.W.fnOf "_law_read" "_law_read" (defArgs s__law_read) (defBody s__law_read) (defScope s__law_read) .none kV84 dc84 pm84 an84 cd84 ct84), sl84⟩) (c84 : PySem.W.codeIn K cd84 "_law_read" = true) (k84 : PySem.W.keepIn K (.ref f84) = true)
    (a85 : PySem.W.nsIn K mainGlobals "law" = some (some (.ref f85))) (l85 : K.lookup f85 = some ⟨oc85, od85, .func (PySem.W.fnOf "law" "law" (defArgs s_law) (defBody s_law) (defScope s_law) .none kV85 dc85 pm85 an85 cd85 ct85), sl85⟩) (c85 : PySem.W.codeIn K cd85 "law" = true) (k85 : PySem.W.keepIn K (.ref f85) = true)
    (xl_2 : K.lookup f2 = some (excClassObj nm_2 qn_2 f2 N_2 bs_2 [.type "ValueError", .type "Exception", .type "BaseException", .type "object"] true sn_2 sub_2 ab_2 col_2 dd_2 m0_2 m1_2 m2_2 m3_2 m5_2 "ValueError.__new__"))
    (xs_2 : PySem.W.findIn K (.ref f2) "__setattr__" = some (some (.builtin "object.__setattr__")))
    (xe_2 : PySem.W.subIn K (.ref f2) (.type "BaseException") = some true)
    (xt_2 : PySem.W.typeIn K (.ref f2) = some (.type "type"))
    (xk_2 : PySem.W.keepIn K (.ref f2) = true)
    (ya_2 : PySem.W.findIn K (.ref f2) "__getattribute__" = some (some (.builtin "BaseException.__getattribute__")))
    (yg_2 : PySem.W.findIn K (.ref f2) "__getattr__" = some none)
    (yh_2 : PySem.W.hasDictIn K f2 = true)
    (za_2 : PySem.W.findIn K (.ref f2) "__class__" = some (some (.builtin "object.__class__")))
    (zn_2 : PySem.W.specialIn K (.builtin "object.__class__") "__get__" = some (some (.builtin "getset_descriptor.__get__")))
    (zt_2 : PySem.W.takesIn K (.builtin "object.__class__") = some true)
    (zm_2 : PySem.W.mroIn K f2 (.type "object") = some true)
    (xl_5 : K.lookup f5 = some (excClassObj nm_5 qn_5 f5 N_5 bs_5 [.ref f2, .type "ValueError", .type "Exception", .type "BaseException", .type "object"] true sn_5 sub_5 ab_5 col_5 dd_5 m0_5 m1_5 m2_5 m3_5 m5_5 "ValueError.__new__"))
    (xs_5 : PySem.W.findIn K (.ref f5) "__setattr__" = some (some (.builtin "object.__setattr__")))
    (xe_5 : PySem.W.subIn K (.ref f5) (.type "BaseException") = some true)
    (xt_5 : PySem.W.typeIn K (.ref f5) = some (.type "type"))
    (xk_5 : PySem.W.keepIn K (.ref f5) = true)
    (ya_5 : PySem.W.findIn K (.ref f5) "__getattribute__" = some (some (.builtin "BaseException.__getattribute__")))
    (yg_5 : PySem.W.findIn K (.ref f5) "__getattr__" = some none)
    (yh_5 : PySem.W.hasDictIn K f5 = true)
    (za_5 : PySem.W.findIn K (.ref f5) "__class__" = some (some (.builtin "object.__class__")))
    (zn_5 : PySem.W.specialIn K (.builtin "object.__class__") "__get__" = some (some (.builtin "getset_descriptor.__get__")))
    (zt_5 : PySem.W.takesIn K (.builtin "object.__class__") = some true)
    (zm_5 : PySem.W.mroIn K f5 (.type "object") = some true)
    (na_5_limit : PySem.W.findIn K (.ref f5) "limit" = some none)
    (xl_7 : K.lookup f7 = some (excClassObj nm_7 qn_7 f7 N_7 bs_7 [.ref f2, .type "ValueError", .type "Exception", .type "BaseException", .type "object"] true sn_7 sub_7 ab_7 col_7 dd_7 m0_7 m1_7 m2_7 m3_7 m5_7 "ValueError.__new__"))
    (xs_7 : PySem.W.findIn K (.ref f7) "__setattr__" = some (some (.builtin "object.__setattr__")))
    (xe_7 : PySem.W.subIn K (.ref f7) (.type "BaseException") = some true)
    (xt_7 : PySem.W.typeIn K (.ref f7) = some (.type "type"))
    (xk_7 : PySem.W.keepIn K (.ref f7) = true)
    (ya_7 : PySem.W.findIn K (.ref f7) "__getattribute__" = some (some (.builtin "BaseException.__getattribute__")))
    (yg_7 : PySem.W.findIn K (.ref f7) "__getattr__" = some none)
    (yh_7 : PySem.W.hasDictIn K f7 = true)
    (za_7 : PySem.W.findIn K (.ref f7) "__class__" = some (some (.builtin "object.__class__")))
    (zn_7 : PySem.W.specialIn K (.builtin "object.__class__") "__get__" = some (some (.builtin "getset_descriptor.__get__")))
    (zt_7 : PySem.W.takesIn K (.builtin "object.__class__") = some true)
    (zm_7 : PySem.W.mroIn K f7 (.type "object") = some true)
    (ty_7 : PySem.W.typeIn K (.ref f1700) = some (.type "function"))
    (na_7_part : PySem.W.findIn K (.ref f7) "part" = some none)
    (na_7_at : PySem.W.findIn K (.ref f7) "at" = some none)
    (xl_8 : K.lookup f8 = some (excClassObj nm_8 qn_8 f8 N_8 bs_8 [.ref f2, .type "ValueError", .type "Exception", .type "BaseException", .type "object"] true sn_8 sub_8 ab_8 col_8 dd_8 m0_8 m1_8 m2_8 m3_8 m5_8 "ValueError.__new__"))
    (xs_8 : PySem.W.findIn K (.ref f8) "__setattr__" = some (some (.builtin "object.__setattr__")))
    (xe_8 : PySem.W.subIn K (.ref f8) (.type "BaseException") = some true)
    (xt_8 : PySem.W.typeIn K (.ref f8) = some (.type "type"))
    (xk_8 : PySem.W.keepIn K (.ref f8) = true)
    (ya_8 : PySem.W.findIn K (.ref f8) "__getattribute__" = some (some (.builtin "BaseException.__getattribute__")))
    (yg_8 : PySem.W.findIn K (.ref f8) "__getattr__" = some none)
    (yh_8 : PySem.W.hasDictIn K f8 = true)
    (za_8 : PySem.W.findIn K (.ref f8) "__class__" = some (some (.builtin "object.__class__")))
    (zn_8 : PySem.W.specialIn K (.builtin "object.__class__") "__get__" = some (some (.builtin "getset_descriptor.__get__")))
    (zt_8 : PySem.W.takesIn K (.builtin "object.__class__") = some true)
    (zm_8 : PySem.W.mroIn K f8 (.type "object") = some true)
    (ty_8 : PySem.W.typeIn K (.ref f1800) = some (.type "function"))
    (na_8_at : PySem.W.findIn K (.ref f8) "at" = some none)
    (pg_43 : PySem.W.plainGet K f43 Str.empty = true)
    (hd_43 : PySem.W.hasDictIn K f43 = true)
    (po_43 : PySem.W.plainOver K f43 = true)
    (sa_43 : PySem.W.findIn K (.ref f43) "__setattr__" = some (some (.builtin "object.__setattr__")))
    (mk_43 : PySem.W.makesIn K f43 = true)
    (is_5300 : PySem.W.isFn K (.ref f5300) = true)
    (kc_43 : PySem.W.keepIn K (.ref f43) = true)
    (na_43__tables : PySem.W.findIn K (.ref f43) "_tables" = some none)
    (na_43__keys : PySem.W.findIn K (.ref f43) "_keys" = some none)
    (na_43__services : PySem.W.findIn K (.ref f43) "_services" = some none)
    (pg_57 : PySem.W.plainGet K f57 Str.empty = true)
    (hd_57 : PySem.W.hasDictIn K f57 = true)
    (po_57 : PySem.W.plainOver K f57 = true)
    (sa_57 : PySem.W.findIn K (.ref f57) "__setattr__" = some (some (.builtin "object.__setattr__")))
    (mk_57 : PySem.W.makesIn K f57 = true)
    (is_6700 : PySem.W.isFn K (.ref f6700) = true)
    (kc_57 : PySem.W.keepIn K (.ref f57) = true)
    (na_57_schema : PySem.W.findIn K (.ref f57) "schema" = some none)
    (na_57_width : PySem.W.findIn K (.ref f57) "width" = some none)
    (na_57__parts : PySem.W.findIn K (.ref f57) "_parts" = some none)
    (wv_90064_question : PySem.W.nsIn K f90064 "question" = some (some (.ref fq90064_question)))
    (wq_90064_question : K.lookup fq90064_question = some oq90064_question)
    (wqc_90064_question : oq90064_question.cls = .type "tuple")
    (wqd_90064_question : oq90064_question.data = .seq #[.ref fu90064_question, .none] nq90064_question)
    (wu_90064_question : K.lookup fu90064_question = some ou90064_question)
    (wuc_90064_question : ou90064_question.cls = .type "tuple")
    (wud_90064_question : ou90064_question.data = .seq #[.ref f61] nu90064_question)
    (wv_90064_part : PySem.W.nsIn K f90064 "part" = some (some (.ref fq90064_part)))
    (wq_90064_part : K.lookup fq90064_part = some oq90064_part)
    (wqc_90064_part : oq90064_part.cls = .type "tuple")
    (wqd_90064_part : oq90064_part.data = .seq #[.ref fu90064_part, .ref f63] nq90064_part)
    (wu_90064_part : K.lookup fu90064_part = some ou90064_part)
    (wuc_90064_part : ou90064_part.cls = .type "tuple")
    (wud_90064_part : ou90064_part.data = .seq #[] nu90064_part)
    (wv_90064_atom : PySem.W.nsIn K f90064 "atom" = some (some (.ref fq90064_atom)))
    (wq_90064_atom : K.lookup fq90064_atom = some oq90064_atom)
    (wqc_90064_atom : oq90064_atom.cls = .type "tuple")
    (wqd_90064_atom : oq90064_atom.data = .seq #[.ref fu90064_atom, .ref f63] nq90064_atom)
    (wu_90064_atom : K.lookup fu90064_atom = some ou90064_atom)
    (wuc_90064_atom : ou90064_atom.cls = .type "tuple")
    (wud_90064_atom : ou90064_atom.data = .seq #[.ref f60] nu90064_atom)
    (wl_90064 : K.lookup f90064 = some ⟨.type "dict", none, .dict ew90064 nw90064, #[]⟩)
    (wk_90064 : PySem.W.KeysLit w.params ew90064.toList)
    (wm_90064 : (f90064 == sysModules) = false)
    (oa_43 : PySem.W.findIn K (.ref f43) "__class__" = some (some (.builtin "object.__class__")))
    (on_43 : PySem.W.specialIn K (.builtin "object.__class__") "__get__" = some (some (.builtin "getset_descriptor.__get__")))
    (ot_43 : PySem.W.takesIn K (.builtin "object.__class__") = some true)
    (om_43 : PySem.W.mroIn K f43 (.type "object") = some true)
    (ne_43 : PySem.W.findIn K (.ref f43) "__ne__" = some (some (.builtin "object.__ne__")))
    (es_7_7 : PySem.W.subIn K (.ref f7) (.ref f7) = some true)
    (pb_5301 : PySem.W.specialIn K (.ref f55301) "__get__" = some (some (.builtin "property.__get__")))
    (pc_5301 : PySem.W.takesIn K (.ref f55301) = some true)
    (mi_5304 : PySem.W.isFn K (.ref f5304) = true)
    (mi_6701 : PySem.W.isFn K (.ref f6701) = true)
    (z_all : PySem.W.nsIn K mainGlobals "all" = some none)
    (z_bool : PySem.W.nsIn K mainGlobals "bool" = some none)
    (z_dict : PySem.W.nsIn K mainGlobals "dict" = some none)
    (z_enumerate : PySem.W.nsIn K mainGlobals "enumerate" = some none)
    (z_int : PySem.W.nsIn K mainGlobals "int" = some none)
    (z_isinstance : PySem.W.nsIn K mainGlobals "isinstance" = some none)
    (z_len : PySem.W.nsIn K mainGlobals "len" = some none)
    (z_list : PySem.W.nsIn K mainGlobals "list" = some none)
    (z_range : PySem.W.nsIn K mainGlobals "range" = some none)
    (z_sorted : PySem.W.nsIn K mainGlobals "sorted" = some none)
    (z_str : PySem.W.nsIn K mainGlobals "str" = some none)
    (z_tuple : PySem.W.nsIn K mainGlobals "tuple" = some none)
    (z_zip : PySem.W.nsIn K mainGlobals "zip" = some none)
    {t_LONGEST_WORD : Tok} (v_LONGEST_WORD : PySem.W.nsIn K mainGlobals "LONGEST_WORD" = some (some (.int (8) t_LONGEST_WORD)))
    {t_GREATEST_VALUE : Tok} (v_GREATEST_VALUE : PySem.W.nsIn K mainGlobals "GREATEST_VALUE" = some (some (.int (999999999999999999999999999999) t_GREATEST_VALUE)))
    {t_MOST_TABLES : Tok} (v_MOST_TABLES : PySem.W.nsIn K mainGlobals "MOST_TABLES" = some (some (.int (5) t_MOST_TABLES)))
    {t_MOST_WIDTH_schemas : Tok} (v_MOST_WIDTH_schemas : PySem.W.nsIn K mainGlobals "MOST_WIDTH_schemas" = some (some (.int (4) t_MOST_WIDTH_schemas)))
    {t_MOST_SERVICES : Tok} (v_MOST_SERVICES : PySem.W.nsIn K mainGlobals "MOST_SERVICES" = some (some (.int (8) t_MOST_SERVICES)))
    {t_MOST_CAP : Tok} (v_MOST_CAP : PySem.W.nsIn K mainGlobals "MOST_CAP" = some (some (.int (4) t_MOST_CAP)))
    {t_MOST_WIDTH_questions : Tok} (v_MOST_WIDTH_questions : PySem.W.nsIn K mainGlobals "MOST_WIDTH_questions" = some (some (.int (12) t_MOST_WIDTH_questions)))
    {t_MOST_PARTS : Tok} (v_MOST_PARTS : PySem.W.nsIn K mainGlobals "MOST_PARTS" = some (some (.int (4000) t_MOST_PARTS)))
    {t_MOST_ATOMS : Tok} (v_MOST_ATOMS : PySem.W.nsIn K mainGlobals "MOST_ATOMS" = some (some (.int (5) t_MOST_ATOMS)))
    {t_MOST_DIGITS : Tok} (v_MOST_DIGITS : PySem.W.nsIn K mainGlobals "MOST_DIGITS" = some (some (.int (30) t_MOST_DIGITS)))
    : ∃ fd : FuncData, (∀ (s : Shared) (v : Value), BindsTo s fd ⟨[v], []⟩ [("_law_script", v)]) ∧ ∀ base : Heap, K.In base → base.Ns mainGlobals mg → FnOk P w K mg base CX0 12 fa fd ["_law_script"] (spLaw K) := by
  have e := hfa.symm.trans (PySem.W.mg_of X G a85)
  cases e
  have F1700 := fun_mk (st := s_InvalidQuestion___init__) l1700 c1700 k1700
  have b1700 := F1700.binds (ps := ["self", "part", "at"]) fun _ _ _ _ _ _ => len3 (fun _ _ _ => rfl)
  have F12 := fun_mk (st := s_is_plain_int) l12 c12 k12
  have b12 := F12.binds (ps := ["thing"]) fun _ _ _ _ _ _ => len1 (fun _ => rfl)
  have F13 := fun_mk (st := s_is_word) l13 c13 k13
  have b13 := F13.binds (ps := ["thing"]) fun _ _ _ _ _ _ => len1 (fun _ => rfl)
  have F14 := fun_mk (st := s_is_value) l14 c14 k14
  have b14 := F14.binds (ps := ["thing"]) fun _ _ _ _ _ _ => len1 (fun _ => rfl)
  have F16 := fun_mk (st := s_is_variable) l16 c16 k16
  have b16 := F16.binds (ps := ["thing"]) fun _ _ _ _ _ _ => len1 (fun _ => rfl)
  have F17 := fun_mk (st := s_is_term) l17 c17 k17
  have b17 := F17.binds (ps := ["thing"]) fun _ _ _ _ _ _ => len1 (fun _ => rfl)
  have F18 := fun_mk (st := s_term_variables) l18 c18 k18
  have b18 := F18.binds (ps := ["terms"]) fun _ _ _ _ _ _ => len1 (fun _ => rfl)
  have F19 := fun_mk (st := s_atom_variables) l19 c19 k19
  have b19 := F19.binds (ps := ["atoms"]) fun _ _ _ _ _ _ => len1 (fun _ => rfl)
  have F32 := fun_mk (st := s__is_count) l32 c32 k32
  have b32 := F32.binds (ps := ["thing", "most"]) fun _ _ _ _ _ _ => len2 (fun _ _ => rfl)
  have F33 := fun_mk (st := s__is_name_in) l33 c33 k33
  have b33 := F33.binds (ps := ["thing", "names"]) fun _ _ _ _ _ _ => len2 (fun _ _ => rfl)
  have F34 := fun_mk (st := s__are_columns) l34 c34 k34
  have b34 := F34.binds (ps := ["thing", "width"]) fun _ _ _ _ _ _ => len2 (fun _ _ => rfl)
  have F35 := fun_mk (st := s__is_key) l35 c35 k35
  have b35 := F35.binds (ps := ["thing", "width"]) fun _ _ _ _ _ _ => len2 (fun _ _ => rfl)
  have F36 := fun_mk (st := s__is_service) l36 c36 k36
  have b36 := F36.binds (ps := ["thing", "tables"]) fun _ _ _ _ _ _ => len2 (fun _ _ => rfl)
  have F37 := fun_mk (st := s__is_whole_service) l37 c37 k37
  have b37 := F37.binds (ps := ["service", "tables", "keys"]) fun _ _ _ _ _ _ => len3 (fun _ _ _ => rfl)
  have F38 := fun_mk (st := s__check_tables) l38 c38 k38
  have b38 := F38.binds (ps := ["tables"]) fun _ _ _ _ _ _ => len1 (fun _ => rfl)
  have F39 := fun_mk (st := s__check_keys) l39 c39 k39
  have b39 := F39.binds (ps := ["keys", "tables"]) fun _ _ _ _ _ _ => len2 (fun _ _ => rfl)
  have F40 := fun_mk (st := s__check_services) l40 c40 k40
  have b40 := F40.binds (ps := ["services", "tables"]) fun _ _ _ _ _ _ => len2 (fun _ _ => rfl)
  have F41 := fun_mk (st := s__check_capped) l41 c41 k41
  have b41 := F41.binds (ps := ["services", "tables", "keys"]) fun _ _ _ _ _ _ => len3 (fun _ _ _ => rfl)
  have F42 := fun_mk (st := s__copied) l42 c42 k42
  have b42 := F42.binds (ps := ["things"]) fun _ _ _ _ _ _ => len1 (fun _ => rfl)
  have F5300 := fun_mk (st := s_Schema___init__) l5300 c5300 k5300
  have b5300 := F5300.binds (ps := ["self", "tables", "keys", "services"]) fun _ _ _ _ _ _ => len4 (fun _ _ _ _ => rfl)
  have F5301 := fun_mk (st := s_Schema_tables) l5301 c5301 k5301
  have b5301 := F5301.binds (ps := ["self"]) fun _ _ _ _ _ _ => len1 (fun _ => rfl)
  have F5304 := fun_mk (st := s_Schema___eq__) l5304 c5304 k5304
  have b5304 := F5304.binds (ps := ["self", "other"]) fun _ _ _ _ _ _ => len2 (fun _ _ => rfl)
  have F49 := fun_mk (st := s__is_atom) l49 c49 k49
  have b49 := F49.binds (ps := ["thing"]) fun _ _ _ _ _ _ => len1 (fun _ => rfl)
  have F50 := fun_mk (st := s__has_form) l50 c50 k50
  have b50 := F50.binds (ps := ["part"]) fun _ _ _ _ _ _ => len1 (fun _ => rfl)
  have F51 := fun_mk (st := s__are_terms) l51 c51 k51
  have b51 := F51.binds (ps := ["terms", "many"]) fun _ _ _ _ _ _ => len2 (fun _ _ => rfl)
  have F52 := fun_mk (st := s__wrong_part) l52 c52 k52
  have b52 := F52.binds (ps := ["tables", "width", "part"]) fun _ _ _ _ _ _ => len3 (fun _ _ _ => rfl)
  have F53 := fun_mk (st := s__check_question) l53 c53 k53
  have b53 := F53.binds (ps := ["schema", "width", "parts"]) fun _ _ _ _ _ _ => len3 (fun _ _ _ => rfl)
  have F6700 := fun_mk (st := s_Question___init__) l6700 c6700 k6700
  have b6700 := F6700.binds (ps := ["self", "schema", "width", "parts"]) fun _ _ _ _ _ _ => len4 (fun _ _ _ _ => rfl)
  have F6701 := fun_mk (st := s_Question_part_list) l6701 c6701 k6701
  have b6701 := F6701.binds (ps := ["self"]) fun _ _ _ _ _ _ => len1 (fun _ => rfl)
  have F1800 := fun_mk (st := s_InvalidLine___init__) l1800 c1800 k1800
  have b1800 := F1800.binds (ps := ["self", "at"]) fun _ _ _ _ _ _ => len2 (fun _ _ => rfl)
  have F60 := fun_mk (st := s__name) l60 c60 k60
  have b60 := F60.binds (ps := ["text"]) fun _ _ _ _ _ _ => len1 (fun _ => rfl)
  have F61 := fun_mk (st := s__number) l61 c61 k61
  have b61 := F61.binds (ps := ["text"]) fun _ _ _ _ _ _ => len1 (fun _ => rfl)
  have F62 := fun_mk (st := s__value) l62 c62 k62
  have b62 := F62.binds (ps := ["text"]) fun _ _ _ _ _ _ => len1 (fun _ => rfl)
  have F63 := fun_mk (st := s__term) l63 c63 k63
  have b63 := F63.binds (ps := ["text"]) fun _ _ _ _ _ _ => len1 (fun _ => rfl)
  have F65 := fun_mk (st := s__read) l65 c65 k65
  have b65 := F65.binds (ps := ["form", "words"]) fun _ _ _ _ _ _ => len2 (fun _ _ => rfl)
  have F66 := fun_mk (st := s__read_at) l66 c66 k66
  have b66 := F66.binds (ps := ["at", "form", "words"]) fun _ _ _ _ _ _ => len3 (fun _ _ _ => rfl)
  have F67 := fun_mk (st := s_read_question) l67 c67 k67
  have b67 := F67.binds (ps := ["schema", "lines"]) fun _ _ _ _ _ _ => len2 (fun _ _ => rfl)
  have F69 := fun_mk (st := s__line) l69 c69 k69
  have b69 := F69.binds (ps := ["words"]) fun _ _ _ _ _ _ => len1 (fun _ => rfl)
  have F70 := fun_mk (st := s__term_word) l70 c70 k70
  have b70 := F70.binds (ps := ["term"]) fun _ _ _ _ _ _ => len1 (fun _ => rfl)
  have F71 := fun_mk (st := s_question_lines) l71 c71 k71
  have b71 := F71.binds (ps := ["question"]) fun _ _ _ _ _ _ => len1 (fun _ => rfl)
  have F73 := fun_mk (st := s__law_state) l73 c73 k73
  have b73 := F73.binds (ps := ["_law_script", "_law_k"]) fun _ _ _ _ _ _ => len2 (fun _ _ => rfl)
  have F74 := fun_mk (st := s__law_pick) l74 c74 k74
  have b74 := F74.binds (ps := ["_law_state_here", "_law_many"]) fun _ _ _ _ _ _ => len2 (fun _ _ => rfl)
  have F75 := fun_mk (st := s__law_word) l75 c75 k75
  have b75 := F75.binds (ps := ["_law_state_here"]) fun _ _ _ _ _ _ => len1 (fun _ => rfl)
  have F76 := fun_mk (st := s__law_term) l76 c76 k76
  have b76 := F76.binds (ps := ["_law_state_here"]) fun _ _ _ _ _ _ => len1 (fun _ => rfl)
  have F77 := fun_mk (st := s__law_tables) l77 c77 k77
  have b77 := F77.binds (ps := ["_law_state_here"]) fun _ _ _ _ _ _ => len1 (fun _ => rfl)
  have F78 := fun_mk (st := s__law_part) l78 c78 k78
  have b78 := F78.binds (ps := ["_law_state_here", "_law_tables_here", "_law_width"]) fun _ _ _ _ _ _ => len3 (fun _ _ _ => rfl)
  have F79 := fun_mk (st := s__law_term_word) l79 c79 k79
  have b79 := F79.binds (ps := ["_law_term_here"]) fun _ _ _ _ _ _ => len1 (fun _ => rfl)
  have F80 := fun_mk (st := s__law_line) l80 c80 k80
  have b80 := F80.binds (ps := ["_law_pair", "_law_is_head"]) fun _ _ _ _ _ _ => len2 (fun _ _ => rfl)
  have F81 := fun_mk (st := s__law_written) l81 c81 k81
  have b81 := F81.binds (ps := ["_law_width", "_law_parts"]) fun _ _ _ _ _ _ => len2 (fun _ _ => rfl)
  have F82 := fun_mk (st := s__law_changed) l82 c82 k82
  have b82 := F82.binds (ps := ["_law_state_here", "_law_parts"]) fun _ _ _ _ _ _ => len2 (fun _ _ => rfl)
  have F83 := fun_mk (st := s__law_made) l83 c83 k83
  have b83 := F83.binds (ps := ["_law_schema", "_law_width", "_law_parts"]) fun _ _ _ _ _ _ => len3 (fun _ _ _ => rfl)
  have F84 := fun_mk (st := s__law_read) l84 c84 k84
  have b84 := F84.binds (ps := ["_law_schema", "_law_lines"]) fun _ _ _ _ _ _ => len2 (fun _ _ => rfl)
  have F85 := fun_mk (st := s_law) l85 c85 k85
  have b85 := F85.binds (ps := ["_law_script"]) fun _ _ _ _ _ _ => len1 (fun _ => rfl)
  let aa : Nat → Addr := fun i => match i with
    | 2 => f2
    | 5 => f5
    | 7 => f7
    | 8 => f8
    | 12 => f12
    | 13 => f13
    | 14 => f14
    | 16 => f16
    | 17 => f17
    | 18 => f18
    | 19 => f19
    | 32 => f32
    | 33 => f33
    | 34 => f34
    | 35 => f35
    | 36 => f36
    | 37 => f37
    | 38 => f38
    | 39 => f39
    | 40 => f40
    | 41 => f41
    | 42 => f42
    | 43 => f43
    | 49 => f49
    | 50 => f50
    | 51 => f51
    | 52 => f52
    | 53 => f53
    | 57 => f57
    | 60 => f60
    | 61 => f61
    | 62 => f62
    | 63 => f63
    | 65 => f65
    | 66 => f66
    | 67 => f67
    | 69 => f69
    | 70 => f70
    | 71 => f71
    | 73 => f73
    | 74 => f74
    | 75 => f75
    | 76 => f76
    | 77 => f77
    | 78 => f78
    | 79 => f79
    | 80 => f80
    | 81 => f81
    | 82 => f82
    | 83 => f83
    | 84 => f84
    | 85 => fa
    | 1700 => f1700
    | 1800 => f1800
    | 5300 => f5300
    | 5301 => f5301
    | 5304 => f5304
    | 6700 => f6700
    | 6701 => f6701
    | 55301 => f55301
    | 90064 => f90064
    | _ => 0
  let dd : Nat → FuncData := fun i => match i with
    | 12 => PySem.W.fnOf "is_plain_int" "is_plain_int" (defArgs s_is_plain_int) (defBody s_is_plain_int) (defScope s_is_plain_int) .none kV12 dc12 pm12 an12 cd12 ct12
    | 13 => PySem.W.fnOf "is_word" "is_word" (defArgs s_is_word) (defBody s_is_word) (defScope s_is_word) .none kV13 dc13 pm13 an13 cd13 ct13
    | 14 => PySem.W.fnOf "is_value" "is_value" (defArgs s_is_value) (defBody s_is_value) (defScope s_is_value) .none kV14 dc14 pm14 an14 cd14 ct14
    | 16 => PySem.W.fnOf "is_variable" "is_variable" (defArgs s_is_variable) (defBody s_is_variable) (defScope s_is_variable) .none kV16 dc16 pm16 an16 cd16 ct16
    | 17 => PySem.W.fnOf "is_term" "is_term" (defArgs s_is_term) (defBody s_is_term) (defScope s_is_term) .none kV17 dc17 pm17 an17 cd17 ct17
    | 18 => PySem.W.fnOf "term_variables" "term_variables" (defArgs s_term_variables) (defBody s_term_variables) (defScope s_term_variables) .none kV18 dc18 pm18 an18 cd18 ct18
    | 19 => PySem.W.fnOf "atom_variables" "atom_variables" (defArgs s_atom_variables) (defBody s_atom_variables) (defScope s_atom_variables) .none kV19 dc19 pm19 an19 cd19 ct19
    | 32 => PySem.W.fnOf "_is_count" "_is_count" (defArgs s__is_count) (defBody s__is_count) (defScope s__is_count) .none kV32 dc32 pm32 an32 cd32 ct32
    | 33 => PySem.W.fnOf "_is_name_in" "_is_name_in" (defArgs s__is_name_in) (defBody s__is_name_in) (defScope s__is_name_in) .none kV33 dc33 pm33 an33 cd33 ct33
    | 34 => PySem.W.fnOf "_are_columns" "_are_columns" (defArgs s__are_columns) (defBody s__are_columns) (defScope s__are_columns) .none kV34 dc34 pm34 an34 cd34 ct34
    | 35 => PySem.W.fnOf "_is_key" "_is_key" (defArgs s__is_key) (defBody s__is_key) (defScope s__is_key) .none kV35 dc35 pm35 an35 cd35 ct35
    | 36 => PySem.W.fnOf "_is_service" "_is_service" (defArgs s__is_service) (defBody s__is_service) (defScope s__is_service) .none kV36 dc36 pm36 an36 cd36 ct36
    | 37 => PySem.W.fnOf "_is_whole_service" "_is_whole_service" (defArgs s__is_whole_service) (defBody s__is_whole_service) (defScope s__is_whole_service) .none kV37 dc37 pm37 an37 cd37 ct37
    | 38 => PySem.W.fnOf "_check_tables" "_check_tables" (defArgs s__check_tables) (defBody s__check_tables) (defScope s__check_tables) .none kV38 dc38 pm38 an38 cd38 ct38
    | 39 => PySem.W.fnOf "_check_keys" "_check_keys" (defArgs s__check_keys) (defBody s__check_keys) (defScope s__check_keys) .none kV39 dc39 pm39 an39 cd39 ct39
    | 40 => PySem.W.fnOf "_check_services" "_check_services" (defArgs s__check_services) (defBody s__check_services) (defScope s__check_services) .none kV40 dc40 pm40 an40 cd40 ct40
    | 41 => PySem.W.fnOf "_check_capped" "_check_capped" (defArgs s__check_capped) (defBody s__check_capped) (defScope s__check_capped) .none kV41 dc41 pm41 an41 cd41 ct41
    | 42 => PySem.W.fnOf "_copied" "_copied" (defArgs s__copied) (defBody s__copied) (defScope s__copied) .none kV42 dc42 pm42 an42 cd42 ct42
    | 49 => PySem.W.fnOf "_is_atom" "_is_atom" (defArgs s__is_atom) (defBody s__is_atom) (defScope s__is_atom) .none kV49 dc49 pm49 an49 cd49 ct49
    | 50 => PySem.W.fnOf "_has_form" "_has_form" (defArgs s__has_form) (defBody s__has_form) (defScope s__has_form) .none kV50 dc50 pm50 an50 cd50 ct50
    | 51 => PySem.W.fnOf "_are_terms" "_are_terms" (defArgs s__are_terms) (defBody s__are_terms) (defScope s__are_terms) .none kV51 dc51 pm51 an51 cd51 ct51
    | 52 => PySem.W.fnOf "_wrong_part" "_wrong_part" (defArgs s__wrong_part) (defBody s__wrong_part) (defScope s__wrong_part) .none kV52 dc52 pm52 an52 cd52 ct52
    | 53 => PySem.W.fnOf "_check_question" "_check_question" (defArgs s__check_question) (defBody s__check_question) (defScope s__check_question) .none kV53 dc53 pm53 an53 cd53 ct53
    | 60 => PySem.W.fnOf "_name" "_name" (defArgs s__name) (defBody s__name) (defScope s__name) .none kV60 dc60 pm60 an60 cd60 ct60
    | 61 => PySem.W.fnOf "_number" "_number" (defArgs s__number) (defBody s__number) (defScope s__number) .none kV61 dc61 pm61 an61 cd61 ct61
    | 62 => PySem.W.fnOf "_value" "_value" (defArgs s__value) (defBody s__value) (defScope s__value) .none kV62 dc62 pm62 an62 cd62 ct62
    | 63 => PySem.W.fnOf "_term" "_term" (defArgs s__term) (defBody s__term) (defScope s__term) .none kV63 dc63 pm63 an63 cd63 ct63
    | 65 => PySem.W.fnOf "_read" "_read" (defArgs s__read) (defBody s__read) (defScope s__read) .none kV65 dc65 pm65 an65 cd65 ct65
    | 66 => PySem.W.fnOf "_read_at" "_read_at" (defArgs s__read_at) (defBody s__read_at) (defScope s__read_at) .none kV66 dc66 pm66 an66 cd66 ct66
    | 67 => PySem.W.fnOf "read_question" "read_question" (defArgs s_read_question) (defBody s_read_question) (defScope s_read_question) .none kV67 dc67 pm67 an67 cd67 ct67
    | 69 => PySem.W.fnOf "_line" "_line" (defArgs s__line) (defBody s__line) (defScope s__line) .none kV69 dc69 pm69 an69 cd69 ct69
    | 70 => PySem.W.fnOf "_term_word" "_term_word" (defArgs s__term_word) (defBody s__term_word) (defScope s__term_word) .none kV70 dc70 pm70 an70 cd70 ct70
    | 71 => PySem.W.fnOf "question_lines" "question_lines" (defArgs s_question_lines) (defBody s_question_lines) (defScope s_question_lines) .none kV71 dc71 pm71 an71 cd71 ct71
    | 73 => PySem.W.fnOf "_law_state" "_law_state" (defArgs s__law_state) (defBody s__law_state) (defScope s__law_state) .none kV73 dc73 pm73 an73 cd73 ct73
    | 74 => PySem.W.fnOf "_law_pick" "_law_pick" (defArgs s__law_pick) (defBody s__law_pick) (defScope s__law_pick) .none kV74 dc74 pm74 an74 cd74 ct74
    | 75 => PySem.W.fnOf "_law_word" "_law_word" (defArgs s__law_word) (defBody s__law_word) (defScope s__law_word) .none kV75 dc75 pm75 an75 cd75 ct75
    | 76 => PySem.W.fnOf "_law_term" "_law_term" (defArgs s__law_term) (defBody s__law_term) (defScope s__law_term) .none kV76 dc76 pm76 an76 cd76 ct76
    | 77 => PySem.W.fnOf "_law_tables" "_law_tables" (defArgs s__law_tables) (defBody s__law_tables) (defScope s__law_tables) .none kV77 dc77 pm77 an77 cd77 ct77
    | 78 => PySem.W.fnOf "_law_part" "_law_part" (defArgs s__law_part) (defBody s__law_part) (defScope s__law_part) .none kV78 dc78 pm78 an78 cd78 ct78
    | 79 => PySem.W.fnOf "_law_term_word" "_law_term_word" (defArgs s__law_term_word) (defBody s__law_term_word) (defScope s__law_term_word) .none kV79 dc79 pm79 an79 cd79 ct79
    | 80 => PySem.W.fnOf "_law_line" "_law_line" (defArgs s__law_line) (defBody s__law_line) (defScope s__law_line) .none kV80 dc80 pm80 an80 cd80 ct80
    | 81 => PySem.W.fnOf "_law_written" "_law_written" (defArgs s__law_written) (defBody s__law_written) (defScope s__law_written) .none kV81 dc81 pm81 an81 cd81 ct81
    | 82 => PySem.W.fnOf "_law_changed" "_law_changed" (defArgs s__law_changed) (defBody s__law_changed) (defScope s__law_changed) .none kV82 dc82 pm82 an82 cd82 ct82
    | 83 => PySem.W.fnOf "_law_made" "_law_made" (defArgs s__law_made) (defBody s__law_made) (defScope s__law_made) .none kV83 dc83 pm83 an83 cd83 ct83
    | 84 => PySem.W.fnOf "_law_read" "_law_read" (defArgs s__law_read) (defBody s__law_read) (defScope s__law_read) .none kV84 dc84 pm84 an84 cd84 ct84
    | 85 => PySem.W.fnOf "law" "law" (defArgs s_law) (defBody s_law) (defScope s_law) .none kV85 dc85 pm85 an85 cd85 ct85
    | 1700 => PySem.W.fnOf "__init__" "InvalidQuestion.__init__" (defArgs s_InvalidQuestion___init__) (defBody s_InvalidQuestion___init__) (defScope s_InvalidQuestion___init__) .none kV1700 dc1700 pm1700 an1700 cd1700 ct1700
    | 1800 => PySem.W.fnOf "__init__" "InvalidLine.__init__" (defArgs s_InvalidLine___init__) (defBody s_InvalidLine___init__) (defScope s_InvalidLine___init__) .none kV1800 dc1800 pm1800 an1800 cd1800 ct1800
    | 5300 => PySem.W.fnOf "__init__" "Schema.__init__" (defArgs s_Schema___init__) (defBody s_Schema___init__) (defScope s_Schema___init__) .none kV5300 dc5300 pm5300 an5300 cd5300 ct5300
    | 5301 => PySem.W.fnOf "tables" "Schema.tables" (defArgs s_Schema_tables) (defBody s_Schema_tables) (defScope s_Schema_tables) .none kV5301 dc5301 pm5301 an5301 cd5301 ct5301
    | 5304 => PySem.W.fnOf "__eq__" "Schema.__eq__" (defArgs s_Schema___eq__) (defBody s_Schema___eq__) (defScope s_Schema___eq__) .none kV5304 dc5304 pm5304 an5304 cd5304 ct5304
    | 6700 => PySem.W.fnOf "__init__" "Question.__init__" (defArgs s_Question___init__) (defBody s_Question___init__) (defScope s_Question___init__) .none kV6700 dc6700 pm6700 an6700 cd6700 ct6700
    | 6701 => PySem.W.fnOf "part_list" "Question.part_list" (defArgs s_Question_part_list) (defBody s_Question_part_list) (defScope s_Question_part_list) .none kV6701 dc6701 pm6701 an6701 cd6701 ct6701
    | _ => PySem.W.fnOf "law" "law" (defArgs s_law) (defBody s_law) (defScope s_law) .none kV85 dc85 pm85 an85 cd85 ct85
  have T : Txt K mg aa dd := { F1700 := F1700, b1700 := b1700, F12 := F12, b12 := b12, g12 := PySem.W.mg_of X G a12, F13 := F13, b13 := b13, g13 := PySem.W.mg_of X G a13, F14 := F14, b14 := b14, g14 := PySem.W.mg_of X G a14, F16 := F16, b16 := b16, g16 := PySem.W.mg_of X G a16, F17 := F17, b17 := b17, g17 := PySem.W.mg_of X G a17, F18 := F18, b18 := b18, g18 := PySem.W.mg_of X G a18, F19 := F19, b19 := b19, g19 := PySem.W.mg_of X G a19, F32 := F32, b32 := b32, g32 := PySem.W.mg_of X G a32, F33 := F33, b33 := b33, g33 := PySem.W.mg_of X G a33, F34 := F34, b34 := b34, g34 := PySem.W.mg_of X G a34, F35 := F35, b35 := b35, g35 := PySem.W.mg_of X G a35, F36 := F36, b36 := b36, g36 := PySem.W.mg_of X G a36, F37 := F37, b37 := b37, g37 := PySem.W.mg_of X G a37, F38 := F38, b38 := b38, g38 := PySem.W.mg_of X G a38, F39 := F39, b39 := b39, g39 := PySem.W.mg_of X G a39, F40 := F40, b40 := b40, g40 := PySem.W.mg_of X G a40, F41 := F41, b41 := b41, g41 := PySem.W.mg_of X G a41, F42 := F42, b42 := b42, g42 := PySem.W.mg_of X G a42, F5300 := F5300, b5300 := b5300, F5301 := F5301, b5301 := b5301, F5304 := F5304, b5304 := b5304, F49 := F49, b49 := b49, g49 := PySem.W.mg_of X G a49, F50 := F50, b50 := b50, g50 := PySem.W.mg_of X G a50, F51 := F51, b51 := b51, g51 := PySem.W.mg_of X G a51, F52 := F52, b52 := b52, g52 := PySem.W.mg_of X G a52, F53 := F53, b53 := b53, g53 := PySem.W.mg_of X G a53, F6700 := F6700, b6700 := b6700, F6701 := F6701, b6701 := b6701, F1800 := F1800, b1800 := b1800, F60 := F60, b60 := b60, g60 := PySem.W.mg_of X G a60, F61 := F61, b61 := b61, g61 := PySem.W.mg_of X G a61, F62 := F62, b62 := b62, g62 := PySem.W.mg_of X G a62, F63 := F63, b63 := b63, g63 := PySem.W.mg_of X G a63, F65 := F65, b65 := b65, g65 := PySem.W.mg_of X G a65, F66 := F66, b66 := b66, g66 := PySem.W.mg_of X G a66, F67 := F67, b67 := b67, g67 := PySem.W.mg_of X G a67, F69 := F69, b69 := b69, g69 := PySem.W.mg_of X G a69, F70 := F70, b70 := b70, g70 := PySem.W.mg_of X G a70, F71 := F71, b71 := b71, g71 := PySem.W.mg_of X G a71, F73 := F73, b73 := b73, g73 := PySem.W.mg_of X G a73, F74 := F74, b74 := b74, g74 := PySem.W.mg_of X G a74, F75 := F75, b75 := b75, g75 := PySem.W.mg_of X G a75, F76 := F76, b76 := b76, g76 := PySem.W.mg_of X G a76, F77 := F77, b77 := b77, g77 := PySem.W.mg_of X G a77, F78 := F78, b78 := b78, g78 := PySem.W.mg_of X G a78, F79 := F79, b79 := b79, g79 := PySem.W.mg_of X G a79, F80 := F80, b80 := b80, g80 := PySem.W.mg_of X G a80, F81 := F81, b81 := b81, g81 := PySem.W.mg_of X G a81, F82 := F82, b82 := b82, g82 := PySem.W.mg_of X G a82, F83 := F83, b83 := b83, g83 := PySem.W.mg_of X G a83, F84 := F84, b84 := b84, g84 := PySem.W.mg_of X G a84, F85 := F85, b85 := b85, g85 := PySem.W.mg_of X G a85, cg_2 := PySem.W.mg_of X G ac_2, x_2 := ⟨⟨_, _, _, _, _, _, _, _, _, _, _, _, _, _, _, xl_2, rfl⟩, xs_2, xe_2, xt_2, xk_2⟩, xf_2 := ⟨ya_2, yg_2, xe_2, yh_2⟩, xi_2 := ⟨ya_2, yg_2, xe_2, yh_2, za_2, zn_2, zt_2, zm_2⟩, cg_5 := PySem.W.mg_of X G ac_5, x_5 := ⟨⟨_, _, _, _, _, _, _, _, _, _, _, _, _, _, _, xl_5, rfl⟩, xs_5, xe_5, xt_5, xk_5⟩, xf_5 := ⟨ya_5, yg_5, xe_5, yh_5⟩, xi_5 := ⟨ya_5, yg_5, xe_5, yh_5, za_5, zn_5, zt_5, zm_5⟩, no_5_limit := na_5_limit, cg_7 := PySem.W.mg_of X G ac_7, x_7 := ⟨⟨_, _, _, _, _, _, _, _, _, _, _, _, _, _, _, xl_7, rfl⟩, xs_7, xe_7, xt_7, xk_7⟩, xf_7 := ⟨ya_7, yg_7, xe_7, yh_7⟩, xi_7 := ⟨ya_7, yg_7, xe_7, yh_7, za_7, zn_7, zt_7, zm_7⟩, in_7 := fi_7, ti_7 := ty_7, no_7_part := na_7_part, no_7_at := na_7_at, cg_8 := PySem.W.mg_of X G ac_8, x_8 := ⟨⟨_, _, _, _, _, _, _, _, _, _, _, _, _, _, _, xl_8, rfl⟩, xs_8, xe_8, xt_8, xk_8⟩, xf_8 := ⟨ya_8, yg_8, xe_8, yh_8⟩, xi_8 := ⟨ya_8, yg_8, xe_8, yh_8, za_8, zn_8, zt_8, zm_8⟩, in_8 := fi_8, ti_8 := ty_8, no_8_at := na_8_at, cg_43 := PySem.W.mg_of X G ac_43, cl_43 := ⟨pg_43, hd_43, po_43, sa_43⟩, M_43 := ⟨mk_43, fi_43, is_5300, kc_43⟩, no_43__tables := na_43__tables, no_43__keys := na_43__keys, no_43__services := na_43__services, cg_57 := PySem.W.mg_of X G ac_57, cl_57 := ⟨pg_57, hd_57, po_57, sa_57⟩, M_57 := ⟨mk_57, fi_57, is_6700, kc_57⟩, no_57_schema := na_57_schema, no_57_width := na_57_width, no_57__parts := na_57__parts, wg__QUESTION_FORMS := PySem.W.mg_of X G ac_90064, ic_43 := ⟨⟨pg_43, hd_43, po_43, sa_43⟩, oa_43, on_43, ot_43, om_43, kit_self _⟩, ne_43 := ne_43, om_43 := om_43, exm_7_7 := PySem.W.exm_ref xe_7 yh_7 xt_7 es_7_7, p_5301 := ⟨pa_5301, pb_5301, pc_5301, ⟨_, pd_5301⟩⟩, m_5304 := ⟨ma_5304, mi_5304, k5304⟩, m_6701 := ⟨ma_6701, mi_6701, k6701⟩, z_all := PySem.W.mg_none_of X G z_all, z_bool := PySem.W.mg_none_of X G z_bool, z_dict := PySem.W.mg_none_of X G z_dict, z_enumerate := PySem.W.mg_none_of X G z_enumerate, z_int := PySem.W.mg_none_of X G z_int, z_isinstance := PySem.W.mg_none_of X G z_isinstance, z_len := PySem.W.mg_none_of X G z_len, z_list := PySem.W.mg_none_of X G z_list, z_range := PySem.W.mg_none_of X G z_range, z_sorted := PySem.W.mg_none_of X G z_sorted, z_str := PySem.W.mg_none_of X G z_str, z_tuple := PySem.W.mg_none_of X G z_tuple, z_zip := PySem.W.mg_none_of X G z_zip, c_LONGEST_WORD := ⟨_, PySem.W.mg_of X G v_LONGEST_WORD⟩, c_GREATEST_VALUE := ⟨_, PySem.W.mg_of X G v_GREATEST_VALUE⟩, c_MOST_TABLES := ⟨_, PySem.W.mg_of X G v_MOST_TABLES⟩, c_MOST_WIDTH_schemas := ⟨_, PySem.W.mg_of X G v_MOST_WIDTH_schemas⟩, c_MOST_SERVICES := ⟨_, PySem.W.mg_of X G v_MOST_SERVICES⟩, c_MOST_CAP := ⟨_, PySem.W.mg_of X G v_MOST_CAP⟩, c_MOST_WIDTH_questions := ⟨_, PySem.W.mg_of X G v_MOST_WIDTH_questions⟩, c_MOST_PARTS := ⟨_, PySem.W.mg_of X G v_MOST_PARTS⟩, c_MOST_ATOMS := ⟨_, PySem.W.mg_of X G v_MOST_ATOMS⟩, c_MOST_DIGITS := ⟨_, PySem.W.mg_of X G v_MOST_DIGITS⟩ }
  have W : TxtQ K w aa := by
    refine ⟨⟨_, _, wl_90064, wk_90064, wm_90064⟩, fun x hx => ?_⟩
    simp only [qforms, List.mem_cons, List.not_mem_nil, or_false] at hx
    rcases hx with rfl | rfl | rfl
    · exact ⟨_, wv_90064_question, fun H => ⟨_, _, .non, [.ref _], rfl, .inr ⟨_, _, _, wq_90064_question, wqc_90064_question, wqd_90064_question, (by show 2 ≤ sizeLine; decide), .cons rfl (.cons rfl .nil)⟩, .inr ⟨_, _, _, wu_90064_question, wuc_90064_question, wud_90064_question, (by show 1 ≤ sizeLine; decide), .cons rfl .nil⟩, .cons ⟨_, rfl, .inr (.inl ⟨rfl, rfl⟩)⟩ .nil, rfl, by decide⟩⟩
    · exact ⟨_, wv_90064_part, fun H => ⟨_, _, .ref _, [], rfl, .inr ⟨_, _, _, wq_90064_part, wqc_90064_part, wqd_90064_part, (by show 2 ≤ sizeLine; decide), .cons rfl (.cons rfl .nil)⟩, .inr ⟨_, _, _, wu_90064_part, wuc_90064_part, wud_90064_part, (by show 0 ≤ sizeLine; decide), .nil⟩, .nil, ⟨_, rfl, .inr (.inr ⟨rfl, rfl⟩)⟩, by decide⟩⟩
    · exact ⟨_, wv_90064_atom, fun H => ⟨_, _, .ref _, [.ref _], rfl, .inr ⟨_, _, _, wq_90064_atom, wqc_90064_atom, wqd_90064_atom, (by show 2 ≤ sizeLine; decide), .cons rfl (.cons rfl .nil)⟩, .inr ⟨_, _, _, wu_90064_atom, wuc_90064_atom, wud_90064_atom, (by show 1 ≤ sizeLine; decide), .cons rfl .nil⟩, .cons ⟨_, rfl, .inl ⟨rfl, rfl⟩⟩ .nil, ⟨_, rfl, .inr (.inr ⟨rfl, rfl⟩)⟩, by decide⟩⟩
  exact ⟨_, fun s v => .of_eq rfl, fun base _ _ => ok_law T W⟩
end My
open PySem PySem.W PyProof.Rows
set_option maxRecDepth 100000 in
set_option maxHeartbeats 0 in
theorem PySem.Challenge.cw_cappedcalls_k69_lines_of_questions_holds : PySem.Challenge.rw_cappedcalls_k69_lines_of_questions.Holds := by
  w_on; o_law; k_head; (case hw => w_witness2)
  k_fill
  refine L2.walk_of (l := PySem.Challenge.rw_cappedcalls_k69_lines_of_questions) (n := 63) (k := 12) (x := "_law_script") (CX := fun _ => L2.CX0) (sp := fun w => My.spLaw _) rfl (by decide) rfl ⟨rfl, by decide, by decide⟩ (fun w h Y => PySem.W.kIn_of Y) ?F (fun _ _ a ns hl _ hS => ⟨a, ns, rfl, hS, hl, fun _ => rfl⟩) (fun _ _ _ _ _ h => h)
  case F =>
    intro w mg fa h KX G hmg
    refine' My.all_mk KX G hmg ?ac_2 ?ac_5 ?ac_7 ?ac_8 ?ac_43 ?ac_57 ?ac_90064 ?fi_7 ?fi_8 ?fi_43 ?fi_57 ?ma_5304 ?ma_6701 ?pa_5301 ?pd_5301 ?l1700 ?c1700 ?k1700 ?a12 ?l12 ?c12 ?k12 ?a13 ?l13 ?c13 ?k13 ?a14 ?l14 ?c14 ?k14 ?a16 ?l16 ?c16 ?k16 ?a17 ?l17 ?c17 ?k17 ?a18 ?l18 ?c18 ?k18 ?a19 ?l19 ?c19 ?k19 ?a32 ?l32 ?c32 ?k32 ?a33 ?l33 ?c33 ?k33 ?a34 ?l34 ?c34 ?k34 ?a35 ?l35 ?c35 ?k35 ?a36 ?l36 ?c36 ?k36 ?a37 ?l37 ?c37 ?k37 ?a38 ?l38 ?c38 ?k38 ?a39 ?l39 ?c39 ?k39 ?a40 ?l40 ?c40 ?k40 ?a41 ?l41 ?c41 ?k41 ?a42 ?l42 ?c42 ?k42 ?l5300 ?c5300 ?k5300 ?l5301 ?c5301 ?k5301 ?l5304 ?c5304 ?k5304 ?a49 ?l49 ?c49 ?k49 ?a50 ?l50 ?c50 ?k50 ?a51 ?l51 ?c51 ?k51 ?a52 ?l52 ?c52 ?k52 ?a53 ?l53 ?c53 ?k53 ?l6700 ?c6700 ?k6700 ?l6701 ?c6701 ?k6701 ?l1800 ?c1800 ?k1800 ?a60 ?l60 ?c60 ?k60 ?a61 ?l61 ?c61 ?k61 ?a62 ?l62 ?c62 ?k62 ?a63 ?l63 ?c63 ?k63 ?a65 ?l65 ?c65 ?k65 ?a66 ?l66 ?c66 ?k66 ?a67 ?l67 ?c67 ?k67 ?a69 ?l69 ?c69 ?k69 ?a70 ?l70 ?c70 ?k70 ?a71 ?l71 ?c71 ?k71 ?a73 ?l73 ?c73 ?k73 ?a74 ?l74 ?c74 ?k74 ?a75 ?l75 ?c75 ?k75 ?a76 ?l76 ?c76 ?k76 ?a77 ?l77 ?c77 ?k77 ?a78 ?l78 ?c78 ?k78 ?a79 ?l79 ?c79 ?k79 ?a80 ?l80 ?c80 ?k80 ?a81 ?l81 ?c81 ?k81 ?a82 ?l82 ?c82 ?k82 ?a83 ?l83 ?c83 ?k83 ?a84 ?l84 ?c84 ?k84 ?a85 ?l85 ?c85 ?k85 ?xl_2 ?xs_2 ?xe_2 ?xt_2 ?xk_2 ?ya_2 ?yg_2 ?yh_2 ?za_2 ?zn_2 ?zt_2 ?zm_2 ?xl_5 ?xs_5 ?xe_5 ?xt_5 ?xk_5 ?ya_5 ?yg_5 ?yh_5 ?za_5 ?zn_5 ?zt_5 ?zm_5 ?na_5_limit ?xl_7 ?xs_7 ?xe_7 ?xt_7 ?xk_7 ?ya_7 ?yg_7 ?yh_7 ?za_7 ?zn_7 ?zt_7 ?zm_7 ?ty_7 ?na_7_part ?na_7_at ?xl_8 ?xs_8 ?xe_8 ?xt_8 ?xk_8 ?ya_8 ?yg_8 ?yh_8 ?za_8 ?zn_8 ?zt_8 ?zm_8 ?ty_8 ?na_8_at ?pg_43 ?hd_43 ?po_43 ?sa_43 ?mk_43 ?is_5300 ?kc_43 ?na_43__tables ?na_43__keys ?na_43__services ?pg_57 ?hd_57 ?po_57 ?sa_57 ?mk_57 ?is_6700 ?kc_57 ?na_57_schema ?na_57_width ?na_57__parts ?wv_90064_question ?wq_90064_question ?wqc_90064_question ?wqd_90064_question ?wu_90064_question ?wuc_90064_question ?wud_90064_question ?wv_90064_part ?wq_90064_part ?wqc_90064_part ?wqd_90064_part ?wu_90064_part ?wuc_90064_part ?wud_90064_part ?wv_90064_atom ?wq_90064_atom ?wqc_90064_atom ?wqd_90064_atom ?wu_90064_atom ?wuc_90064_atom ?wud_90064_atom ?wl_90064 ?wk_90064 ?wm_90064 ?oa_43 ?on_43 ?ot_43 ?om_43 ?ne_43 ?es_7_7 ?pb_5301 ?pc_5301 ?mi_5304 ?mi_6701 ?z_all ?z_bool ?z_dict ?z_enumerate ?z_int ?z_isinstance ?z_len ?z_list ?z_range ?z_sorted ?z_str ?z_tuple ?z_zip ?v_LONGEST_WORD ?v_GREATEST_VALUE ?v_MOST_TABLES ?v_MOST_WIDTH_schemas ?v_MOST_SERVICES ?v_MOST_CAP ?v_MOST_WIDTH_questions ?v_MOST_PARTS ?v_MOST_ATOMS ?v_MOST_DIGITS
    (case ac_2 => k_is)
    (case ac_5 => k_is)
    (case ac_7 => k_is)
    (case ac_8 => k_is)
    (case ac_43 => k_is)
    (case ac_57 => k_is)
    (case ac_90064 => k_is)
    (case fi_7 => k_is)
    (case fi_8 => k_is)
    (case fi_43 => k_is)
    (case fi_57 => k_is)
    (case ma_5304 => k_is)
    (case ma_6701 => k_is)
    (case pa_5301 => k_is)
    (case pd_5301 => k_is)
    (case l1700 => k_is)
    (case c1700 => k_is)
    (case k1700 => k_is)
    (case a12 => k_is)
    (case l12 => k_is)
    (case c12 => k_is)
    (case k12 => k_is)
    (case a13 => k_is)
    (case l13 => k_is)
    (case c13 => k_is)
    (case k13 => k_is)
    (case a14 => k_is)
    (case l14 => k_is)
    (case c14 => k_is)
    (case k14 => k_is)
    (case a16 => k_is)
    (case l16 => k_is)
    (case c16 => k_is)
    (case k16 => k_is)
    (case a17 => k_is)
    (case l17 => k_is)
    (case c17 => k_is)
    (case k17 => k_is)
    (case a18 => k_is)
    (case l18 => k_is)
    (case c18 => k_is)
    (case k18 => k_is)
    (case a19 => k_is)
    (case l19 => k_is)
    (case c19 => k_is)
    (case k19 => k_is)
    (case a32 => k_is)
    (case l32 => k_is)
    (case c32 => k_is)
    (case k32 => k_is)
    (case a33 => k_is)
    (case l33 => k_is)
    (case c33 => k_is)
    (case k33 => k_is)
    (case a34 => k_is)
    (case l34 => k_is)
    (case c34 => k_is)
    (case k34 => k_is)
    (case a35 => k_is)
    (case l35 => k_is)
    (case c35 => k_is)
    (case k35 => k_is)
    (case a36 => k_is)
    (case l36 => k_is)
    (case c36 => k_is)
    (case k36 => k_is)
    (case a37 => k_is)
    (case l37 => k_is)
    (case c37 => k_is)
    (case k37 => k_is)
    (case a38 => k_is)
    (case l38 => k_is)
    (case c38 => k_is)
    (case k38 => k_is)
    (case a39 => k_is)
    (case l39 => k_is)
    (case c39 => k_is)
    (case k39 => k_is)
    (case a40 => k_is)
    (case l40 => k_is)
    (case c40 => k_is)
    (case k40 => k_is)
    (case a41 => k_is)
    (case l41 => k_is)
    (case c41 => k_is)
    (case k41 => k_is)
    (case a42 => k_is)
    (case l42 => k_is)
    (case c42 => k_is)
    (case k42 => k_is)
    (case l5300 => k_is)
    (case c5300 => k_is)
    (case k5300 => k_is)
    (case l5301 => k_is)
    (case c5301 => k_is)
    (case k5301 => k_is)
    (case l5304 => k_is)
    (case c5304 => k_is)
    (case k5304 => k_is)
    (case a49 => k_is)
    (case l49 => k_is)
    (case c49 => k_is)
    (case k49 => k_is)
    (case a50 => k_is)
    (case l50 => k_is)
    (case c50 => k_is)
    (case k50 => k_is)
    (case a51 => k_is)
    (case l51 => k_is)
    (case c51 => k_is)
    (case k51 => k_is)
    (case a52 => k_is)
    (case l52 => k_is)
    (case c52 => k_is)
    (case k52 => k_is)
    (case a53 => k_is)
    (case l53 => k_is)
    (case c53 => k_is)
    (case k53 => k_is)
    (case l6700 => k_is)
    (case c6700 => k_is)
    (case k6700 => k_is)
    (case l6701 => k_is)
    (case c6701 => k_is)
    (case k6701 => k_is)
    (case l1800 => k_is)
    (case c1800 => k_is)
    (case k1800 => k_is)
    (case a60 => k_is)
    (case l60 => k_is)
    (case c60 => k_is)
    (case k60 => k_is)
    (case a61 => k_is)
    (case l61 => k_is)
    (case c61 => k_is)
    (case k61 => k_is)
    (case a62 => k_is)
    (case l62 => k_is)
    (case c62 => k_is)
    (case k62 => k_is)
    (case a63 => k_is)
    (case l63 => k_is)
    (case c63 => k_is)
    (case k63 => k_is)
    (case a65 => k_is)
    (case l65 => k_is)
    (case c65 => k_is)
    (case k65 => k_is)
    (case a66 => k_is)
    (case l66 => k_is)
    (case c66 => k_is)
    (case k66 => k_is)
    (case a67 => k_is)
    (case l67 => k_is)
    (case c67 => k_is)
    (case k67 => k_is)
    (case a69 => k_is)
    (case l69 => k_is)
    (case c69 => k_is)
    (case k69 => k_is)
    (case a70 => k_is)
    (case l70 => k_is)
    (case c70 => k_is)
    (case k70 => k_is)
    (case a71 => k_is)
    (case l71 => k_is)
    (case c71 => k_is)
    (case k71 => k_is)
    (case a73 => k_is)
    (case l73 => k_is)
    (case c73 => k_is)
    (case k73 => k_is)
    (case a74 => k_is)
    (case l74 => k_is)
    (case c74 => k_is)
    (case k74 => k_is)
    (case a75 => k_is)
    (case l75 => k_is)
    (case c75 => k_is)
    (case k75 => k_is)
    (case a76 => k_is)
    (case l76 => k_is)
    (case c76 => k_is)
    (case k76 => k_is)
    (case a77 => k_is)
    (case l77 => k_is)
    (case c77 => k_is)
    (case k77 => k_is)
    (case a78 => k_is)
    (case l78 => k_is)
    (case c78 => k_is)
    (case k78 => k_is)
    (case a79 => k_is)
    (case l79 => k_is)
    (case c79 => k_is)
    (case k79 => k_is)
    (case a80 => k_is)
    (case l80 => k_is)
    (case c80 => k_is)
    (case k80 => k_is)
    (case a81 => k_is)
    (case l81 => k_is)
    (case c81 => k_is)
    (case k81 => k_is)
    (case a82 => k_is)
    (case l82 => k_is)
    (case c82 => k_is)
    (case k82 => k_is)
    (case a83 => k_is)
    (case l83 => k_is)
    (case c83 => k_is)
    (case k83 => k_is)
    (case a84 => k_is)
    (case l84 => k_is)
    (case c84 => k_is)
    (case k84 => k_is)
    (case a85 => k_is)
    (case l85 => k_is)
    (case c85 => k_is)
    (case k85 => k_is)
    (case xl_2 => k_is)
    (case xs_2 => k_is)
    (case xe_2 => k_is)
    (case xt_2 => k_is)
    (case xk_2 => k_is)
    (case ya_2 => k_is)
    (case yg_2 => k_is)
    (case yh_2 => k_is)
    (case za_2 => k_is)
    (case zn_2 => k_is)
    (case zt_2 => k_is)
    (case zm_2 => k_is)
    (case xl_5 => k_is)
    (case xs_5 => k_is)
    (case xe_5 => k_is)
    (case xt_5 => k_is)
    (case xk_5 => k_is)
    (case ya_5 => k_is)
    (case yg_5 => k_is)
    (case yh_5 => k_is)
    (case za_5 => k_is)
    (case zn_5 => k_is)
    (case zt_5 => k_is)
    (case zm_5 => k_is)
    (case na_5_limit => k_is)
    (case xl_7 => k_is)
    (case xs_7 => k_is)
    (case xe_7 => k_is)
    (case xt_7 => k_is)
    (case xk_7 => k_is)
    (case ya_7 => k_is)
    (case yg_7 => k_is)
    (case yh_7 => k_is)
    (case za_7 => k_is)
    (case zn_7 => k_is)
    (case zt_7 => k_is)
    (case zm_7 => k_is)
    (case ty_7 => k_is)
    (case na_7_part => k_is)
    (case na_7_at => k_is)
    (case xl_8 => k_is)
    (case xs_8 => k_is)
    (case xe_8 => k_is)
    (case xt_8 => k_is)
    (case xk_8 => k_is)
    (case ya_8 => k_is)
    (case yg_8 => k_is)
    (case yh_8 => k_is)
    (case za_8 => k_is)
    (case zn_8 => k_is)
    (case zt_8 => k_is)
    (case zm_8 => k_is)
    (case ty_8 => k_is)
    (case na_8_at => k_is)
    (case pg_43 => k_is)
    (case hd_43 => k_is)
    (case po_43 => k_is)
    (case sa_43 => k_is)
    (case mk_43 => k_is)
    (case is_5300 => k_is)
    (case kc_43 => k_is)
    (case na_43__tables => k_is)
    (case na_43__keys => k_is)
    (case na_43__services => k_is)
    (case pg_57 => k_is)
    (case hd_57 => k_is)
    (case po_57 => k_is)
    (case sa_57 => k_is)
    (case mk_57 => k_is)
    (case is_6700 => k_is)
    (case kc_57 => k_is)
    (case na_57_schema => k_is)
    (case na_57_width => k_is)
    (case na_57__parts => k_is)
    (case wv_90064_question => k_is)
    (case wq_90064_question => k_is)
    (case wqc_90064_question => rfl)
    (case wqd_90064_question => rfl)
    (case wu_90064_question => k_is)
    (case wuc_90064_question => rfl)
    (case wud_90064_question => rfl)
    (case wv_90064_part => k_is)
    (case wq_90064_part => k_is)
    (case wqc_90064_part => rfl)
    (case wqd_90064_part => rfl)
    (case wu_90064_part => k_is)
    (case wuc_90064_part => rfl)
    (case wud_90064_part => rfl)
    (case wv_90064_atom => k_is)
    (case wq_90064_atom => k_is)
    (case wqc_90064_atom => rfl)
    (case wqd_90064_atom => rfl)
    (case wu_90064_atom => k_is)
    (case wuc_90064_atom => rfl)
    (case wud_90064_atom => rfl)
    (case wl_90064 => k_is)
    (case wk_90064 => exact ⟨⟨_, _, rfl, rfl⟩, ⟨_, _, rfl, rfl⟩, ⟨_, _, rfl, rfl⟩,  trivial⟩)
    (case wm_90064 => rfl)
    (case oa_43 => k_is)
    (case on_43 => k_is)
    (case ot_43 => k_is)
    (case om_43 => k_is)
    (case ne_43 => k_is)
    (case es_7_7 => first | rfl | k_is)
    (case pb_5301 => k_is)
    (case pc_5301 => k_is)
    (case mi_5304 => k_is)
    (case mi_6701 => k_is)
    (case z_all => k_is)
    (case z_bool => k_is)
    (case z_dict => k_is)
    (case z_enumerate => k_is)
    (case z_int => k_is)
    (case z_isinstance => k_is)
    (case z_len => k_is)
    (case z_list => k_is)
    (case z_range => k_is)
    (case z_sorted => k_is)
    (case z_str => k_is)
    (case z_tuple => k_is)
    (case z_zip => k_is)
    (case v_LONGEST_WORD => k_is)
    (case v_GREATEST_VALUE => k_is)
    (case v_MOST_TABLES => k_is)
    (case v_MOST_WIDTH_schemas => k_is)
    (case v_MOST_SERVICES => k_is)
    (case v_MOST_CAP => k_is)
    (case v_MOST_WIDTH_questions => k_is)
    (case v_MOST_PARTS => k_is)
    (case v_MOST_ATOMS => k_is)
    (case v_MOST_DIGITS => k_is)

