import PyProof.Rows.All
import Wide.All
import OpenK.AllK
import Wide.FinOn
import HandS.ForMost
import HandS.IsInst
import HandS.Wide
import HandS.Evl
import HandS.DictComp
import HandS.Conv
import HandS.More
import HandS.Deep
import HandS.ForExc
import HandS.ExcInit
import HandS.ExcField
import HandS.ExcIs
import HandS.Property
import KE.KExcIs
import HandS.NoneIn
import HandS.DeepEq
import HandS.Finally
import HandS.CallSlots
import HandS.Walk
import HandS.DictTup
import HandS.Iter
import HandS.TupLen
import PyProof.DictMoreH
import HandS.Rev
import HandS.Codes
import KE.DataCmp
import KE.SortKeyHeap
import HandS.SortKw
import KE.KEqNest
import HandS.DictEq
import HandS.TupAny
import PySem.Challenge.RW_cappedcalls_k36_unions_at_the_limit
set_option Elab.async false
set_option linter.all false
set_option maxRecDepth 100000
set_option maxHeartbeats 4000000
namespace SK
open PySem PySem.SeqAt PySem.W PySem.Calls PyProof.Rows
/-! ### one tuple below another: only the first place that differs has to be asked -/
theorem tup_lt1 (l b : Addr) (us ws : Array Value) (n1 n2 : Nat) (d1 d2 : Option Addr) (t1 t2 : Array (Option Value)) (e r : Nat → Bool) :
    Meets (Builtin.«tuple.__lt__» ⟨[.ref l, .ref b], []⟩) (fun A R s =>
      (s.heap.get? l = some { cls := .type "tuple", dict := d1, data := .seq us n1, slots := t1 } ∧ s.heap.get? b = some { cls := .type "tuple", dict := d2, data := .seq ws n2, slots := t2 }) ∧
      (∀ j (x1 : j < us.size) (x2 : j < ws.size), EqAt A.in1 s us[j] ws[j] (e j)) ∧
      (∀ j (x1 : j < us.size) (x2 : j < ws.size), (∀ k, k < j → e k = true) → e j = false → RcLt A.in1 s us[j] ws[j] (r j)) ∧
      R (.ok (.ret (.bool (firstLt e r (decide (us.size < ws.size)) (List.range (min us.size ws.size)))))) s) := by
  refine .of_wp fun prog w A R s h => ?_
  obtain ⟨hp, g, d, tk, os⟩ := s
  obtain ⟨⟨hl, hb⟩, he, hr, h⟩ := h
  have sub := AutoSeq1.sub_tuple_tuple
  have len : (us.toList.zip ws.toList).length = min us.size ws.size := by simp
  wp_walk using wpAny_loadPart' hl, wpAny_loadPart' hb, wpAny_forIn_list _ (fun left b s' => (b.1 = none ∧ s' = ⟨hp, g, d, tk, os⟩) ∧ ∃ i, (left = (us.toList.zip ws.toList).drop i ∧ ∀ k, k < i → e k = true) ∧
    R (.ok (.ret (.bool (firstLt e r (decide (us.size < ws.size)) ((List.range (min us.size ws.size)).drop i))))) ⟨hp, g, d, tk, os⟩) _
  case turn =>
    rintro ⟨y, x⟩ left b s' ⟨⟨b0, rfl⟩, i, ⟨hz, hk⟩, hR⟩
    have lt : i < (us.toList.zip ws.toList).length := by
      refine Nat.lt_of_not_le fun q => ?_
      rw [List.drop_of_length_le q] at hz
      cases hz
    have lm : i < min us.size ws.size := by omega
    have x1 : i < us.size := by omega
    have x2 : i < ws.size := by omega
    rw [List.drop_eq_getElem_cons lt] at hz
    injection hz with z1 z2
    have ey : y = us[i] := by simpa using congrArg Prod.fst z1
    have ex : x = ws[i] := by simpa using congrArg Prod.snd z1
    subst ey ex
    rw [show (List.range (min us.size ws.size)).drop i = i :: (List.range (min us.size ws.size)).drop (i + 1) by simp [List.drop_eq_getElem_cons, lm]] at hR
    refine wpAny_bind (he i x1 x2 prog w _ _ ?_)
    cases q : e i with
    | true =>
      rw [firstLt_yes q] at hR
      wp_walk
      exact ⟨⟨rfl, rfl⟩, i + 1, ⟨z2, fun k hki => by
        rcases Nat.lt_succ_iff_lt_or_eq.mp hki with h | h
        · exact hk k h
        · rw [h]
          exact q⟩, hR⟩
    | false =>
      rw [firstLt_no q] at hR
      have hr' : ∀ (E Q : Value → Shared → Prop), Q (.bool (r i)) ⟨hp, g, d, tk, os⟩ → wpAny (model prog w) A.in1 (richCompare .Lt us[i] ws[i]) Q E ⟨hp, g, d, tk, os⟩ := fun E Q => hr i x1 x2 hk q prog w E Q
      generalize richCompare .Lt us[i] ws[i] = m at hr' ⊢
      wp_walk
      refine hr' _ _ ?_
      wp_walk
      exact ⟨_, rfl, hR⟩
  case fin =>
    rintro ⟨b1, b2⟩ s' ⟨⟨b0, rfl⟩, i, ⟨hz, _⟩, hR⟩
    simp only at b0
    subst b0
    have ge : min us.size ws.size ≤ i := by
      refine Nat.le_of_not_lt fun q => ?_
      rw [← len] at q
      rw [List.drop_eq_getElem_cons q] at hz
      cases hz
    rw [List.drop_of_length_le (by simpa using ge)] at hR
    wp_walk
    exact ⟨_, rfl, by simpa [Builtin.Tuple.tupleCompareSizes, firstLt] using hR⟩
  case h => exact ⟨⟨rfl, rfl⟩, 0, ⟨rfl, fun k hk => absurd hk (Nat.not_lt_zero k)⟩, by simpa using h⟩
section
variable {A : Around} {s : Shared}
theorem rc_tups {l b : Addr} {us ws : Array Value} {e r : Nat → Bool} (hl : s.heap.IsTuple l us) (hb : s.heap.IsTuple b ws) (hu : A.units < cLine)
    (he : ∀ j (x1 : j < us.size) (x2 : j < ws.size), EqAt A.in1 s us[j] ws[j] (e j)) (hr : ∀ j (x1 : j < us.size) (x2 : j < ws.size), (∀ k, k < j → e k = true) → e j = false → RcLt A.in1 s us[j] ws[j] (r j)) :
    RcLt A s (.ref l) (.ref b) (firstLt e r (decide (us.size < ws.size)) (List.range (min us.size ws.size))) := fun prog w E Q h => by
  obtain ⟨⟨c1, d1, x1, t1⟩, o1, h1, n1, k1⟩ := id hl
  obtain ⟨⟨c2, d2, x2, t2⟩, o2, h2, n2, k2⟩ := id hb
  simp only at h1 k1 h2 k2
  subst h1 k1 h2 k2
  exact richCompare_meets_room (op := .Lt) ⟨_, o1, rfl⟩ ⟨_, o2, rfl⟩ F.slot_tuple_lt F.entry_tuple_lt (F.args_tuple_lt_2 _ _) (tup_lt1 l b us ws n1 n2 d1 d2 t1 t2 e r) ⟨⟨o1, o2⟩, he, hr, (fun z => nomatch z), h⟩ hu
theorem call_tups {prog : Program} {w : World} {E Q : Value → Shared → Prop} {l b : Addr} {us ws : Array Value} {e r : Nat → Bool} (hl : s.heap.IsTuple l us) (hb : s.heap.IsTuple b ws)
    (he : ∀ j (x1 : j < us.size) (x2 : j < ws.size), EqAt A.in1 s us[j] ws[j] (e j)) (hr : ∀ j (x1 : j < us.size) (x2 : j < ws.size), (∀ k, k < j → e k = true) → e j = false → RcLt A.in1 s us[j] ws[j] (r j))
    (h : Q (.bool (firstLt e r (decide (us.size < ws.size)) (List.range (min us.size ws.size)))) s) : wpAny (model prog w) A (call (.builtin "tuple.__lt__") [.ref l, .ref b]) Q E s := by
  obtain ⟨⟨c1, d1, x1, t1⟩, o1, h1, n1, k1⟩ := id hl
  obtain ⟨⟨c2, d2, x2, t2⟩, o2, h2, n2, k2⟩ := id hb
  simp only at h1 k1 h2 k2
  subst h1 k1 h2 k2
  exact call_meets F.slot_tuple_lt ⟨_, o1, rfl⟩ F.entry_tuple_lt (F.args_tuple_lt_2 _ _) (tup_lt1 l b us ws n1 n2 d1 d2 t1 t2 e r) ⟨⟨o1, o2⟩, he, hr, h⟩
end
/-! ### data that can be asked for their order -/
mutual
def okLt : PyData → PyData → Bool
  | .bool _, .bool _ => true
  | .int _, .int _ => true
  | .str _, .str _ => true
  | .tuple xs, .tuple ys => okAll xs ys
  | _, _ => false
def okAll : List PyData → List PyData → Bool
  | x :: xs, y :: ys => if PyData.eqv x y = true then okAll xs ys else okLt x y
  | [], _ => true
  | _ :: _, [] => true
end
mutual
def ltD : PyData → PyData → Bool
  | .bool a, .bool b => decide (b2i a < b2i b)
  | .int a, .int b => decide (a < b)
  | .str x, .str y => decide (x.cps.toList < y.cps.toList)
  | .tuple xs, .tuple ys => ltAll xs ys
  | _, _ => false
def ltAll : List PyData → List PyData → Bool
  | x :: xs, y :: ys => if PyData.eqv x y = true then ltAll xs ys else ltD x y
  | [], _ :: _ => true
  | [], [] => false
  | _ :: _, [] => false
end
theorem okAll_at : ∀ (xs ys : List PyData) (j : Nat), okAll xs ys = true → (∀ k, k < j → pairEq xs ys k = true) → pairEq xs ys j = false → j < xs.length → j < ys.length → okLt (xs.getD j .none) (ys.getD j .none) = true
  | [], _, _, _, _, _, h, _ => absurd h (Nat.not_lt_zero _)
  | _ :: _, [], _, _, _, _, _, h => absurd h (Nat.not_lt_zero _)
  | x :: xs, y :: ys, 0, h, _, q, _, _ => by
    have q' : PyData.eqv x y = false := q
    simp only [okAll, q', Bool.false_eq_true, if_false] at h
    exact h
  | x :: xs, y :: ys, j + 1, h, hk, q, h1, h2 => by
    have q' : PyData.eqv x y = true := hk 0 (Nat.succ_pos j)
    simp only [okAll, q', if_true] at h
    exact okAll_at xs ys j h (fun k hkj => hk (k + 1) (Nat.succ_lt_succ hkj)) q (Nat.lt_of_succ_lt_succ h1) (Nat.lt_of_succ_lt_succ h2)
theorem first_all : ∀ (xs ys : List PyData), firstLt (pairEq xs ys) (fun j => ltD (xs.getD j .none) (ys.getD j .none)) (decide (xs.length < ys.length)) (List.range (min xs.length ys.length)) = ltAll xs ys
  | [], [] => rfl
  | [], _ :: _ => by simp [firstLt, ltAll]
  | _ :: _, [] => by simp [firstLt, ltAll]
  | x :: xs, y :: ys => by
    have ih := first_all xs ys
    rw [show min (x :: xs).length (y :: ys).length = min xs.length ys.length + 1 by rw [List.length_cons, List.length_cons]; omega,
      show decide ((x :: xs).length < (y :: ys).length) = decide (xs.length < ys.length) by rw [List.length_cons, List.length_cons]; exact decide_eq_decide.mpr (by omega), List.range_succ_eq_map]
    cases q : PyData.eqv x y with
    | true =>
      rw [firstLt_yes (show pairEq (x :: xs) (y :: ys) 0 = true from q), firstLt_map]
      simp only [ltAll, q, if_true]
      exact ih
    | false =>
      rw [firstLt_no (show pairEq (x :: xs) (y :: ys) 0 = false from q)]
      simp only [ltAll, q, Bool.false_eq_true, if_false]
      rfl
mutual
theorem rc_ok : ∀ (da db : PyData) (A : Around) (s : Shared) (a b : Value) (as bs : List Addr), Reads s.heap a da as → Reads s.heap b db bs → da.canLay0 = true → db.canLay0 = true → okLt da db = true → A.units + min da.depth db.depth < cLine → RcLt A s a b (ltD da db)
  | .bool x, .bool y, A, s, a, b, as, bs, ra, rb, _, _, _, _ => by
    cases ra
    cases rb
    exact fun prog w E Q hq => lt_bool hq
  | .int x, .int y, A, s, a, b, as, bs, ra, rb, _, _, _, _ => by
    cases ra
    cases rb
    exact fun prog w E Q hq => P.lt_int hq
  | .str x, .str y, A, s, a, b, as, bs, ra, rb, _, _, _, _ => by
    cases ra
    cases rb
    exact fun prog w E Q hq => P.lt_str hq
  | .tuple xs, .tuple ys, A, s, a, b, as, bs, ra, rb, la, lb, h, hu => by
    have hok : okAll xs ys = true := by simpa [okLt] using h
    have la' : PyData.canLayAll0 xs = true := by simpa [PyData.canLay0] using la
    have lb' : PyData.canLayAll0 ys = true := by simpa [PyData.canLay0] using lb
    cases ra with
    | @tuple l o us n _ as₁ h1 h2 h3 h4 =>
      cases rb with
      | @tuple l' o' ws n' _ bs₁ k1 k2 k3 k4 =>
        have n1 : us.size = xs.length := by simpa using ReadsAll.length _ _ _ h4
        have n2 : ws.size = ys.length := by simpa using ReadsAll.length _ _ _ k4
        show RcLt A s (.ref l) (.ref l') (ltAll xs ys)
        rw [← first_all xs ys, ← n1, ← n2]
        refine rc_tups ⟨_, h1, h2, _, h3⟩ ⟨_, k1, k2, _, k3⟩ (room_here hu) (fun j j1 j2 => ?_) fun j j1 j2 hk hj => ?_
        · have := eqAt_readsAll xs ys A.in1 s us.toList ws.toList _ _ h4 k4 la' lb' (room_in hu) j (by simpa using j1) (by simpa using j2)
          simpa using this
        · have := rc_okAll xs ys A.in1 s us.toList ws.toList _ _ h4 k4 la' lb' (room_in hu) j (by simpa using j1) (by simpa using j2) (okAll_at xs ys j hok hk hj (by omega) (by omega))
          simpa using this
  | .none, _, _, _, _, _, _, _, _, _, _, _, h, _ => absurd h (by simp [okLt])
  | .list _, _, _, _, _, _, _, _, _, _, _, _, h, _ => absurd h (by simp [okLt])
  | .dict _, _, _, _, _, _, _, _, _, _, _, _, h, _ => absurd h (by simp [okLt])
  | .bool _, .none, _, _, _, _, _, _, _, _, _, _, h, _ => absurd h (by simp [okLt])
  | .bool _, .int _, _, _, _, _, _, _, _, _, _, _, h, _ => absurd h (by simp [okLt])
  | .bool _, .str _, _, _, _, _, _, _, _, _, _, _, h, _ => absurd h (by simp [okLt])
  | .bool _, .list _, _, _, _, _, _, _, _, _, _, _, h, _ => absurd h (by simp [okLt])
  | .bool _, .tuple _, _, _, _, _, _, _, _, _, _, _, h, _ => absurd h (by simp [okLt])
  | .bool _, .dict _, _, _, _, _, _, _, _, _, _, _, h, _ => absurd h (by simp [okLt])
  | .int _, .none, _, _, _, _, _, _, _, _, _, _, h, _ => absurd h (by simp [okLt])
  | .int _, .bool _, _, _, _, _, _, _, _, _, _, _, h, _ => absurd h (by simp [okLt])
  | .int _, .str _, _, _, _, _, _, _, _, _, _, _, h, _ => absurd h (by simp [okLt])
  | .int _, .list _, _, _, _, _, _, _, _, _, _, _, h, _ => absurd h (by simp [okLt])
  | .int _, .tuple _, _, _, _, _, _, _, _, _, _, _, h, _ => absurd h (by simp [okLt])
  | .int _, .dict _, _, _, _, _, _, _, _, _, _, _, h, _ => absurd h (by simp [okLt])
  | .str _, .none, _, _, _, _, _, _, _, _, _, _, h, _ => absurd h (by simp [okLt])
  | .str _, .bool _, _, _, _, _, _, _, _, _, _, _, h, _ => absurd h (by simp [okLt])
  | .str _, .int _, _, _, _, _, _, _, _, _, _, _, h, _ => absurd h (by simp [okLt])
  | .str _, .list _, _, _, _, _, _, _, _, _, _, _, h, _ => absurd h (by simp [okLt])
  | .str _, .tuple _, _, _, _, _, _, _, _, _, _, _, h, _ => absurd h (by simp [okLt])
  | .str _, .dict _, _, _, _, _, _, _, _, _, _, _, h, _ => absurd h (by simp [okLt])
  | .tuple _, .none, _, _, _, _, _, _, _, _, _, _, h, _ => absurd h (by simp [okLt])
  | .tuple _, .bool _, _, _, _, _, _, _, _, _, _, _, h, _ => absurd h (by simp [okLt])
  | .tuple _, .int _, _, _, _, _, _, _, _, _, _, _, h, _ => absurd h (by simp [okLt])
  | .tuple _, .str _, _, _, _, _, _, _, _, _, _, _, h, _ => absurd h (by simp [okLt])
  | .tuple _, .list _, _, _, _, _, _, _, _, _, _, _, h, _ => absurd h (by simp [okLt])
  | .tuple _, .dict _, _, _, _, _, _, _, _, _, _, _, h, _ => absurd h (by simp [okLt])
theorem rc_okAll : ∀ (xs ys : List PyData) (A : Around) (s : Shared) (vs ws : List Value) (as bs : List Addr), ReadsAll s.heap vs xs as → ReadsAll s.heap ws ys bs → PyData.canLayAll0 xs = true → PyData.canLayAll0 ys = true → A.units + min (PyData.depthAll xs) (PyData.depthAll ys) < cLine →
    ∀ j (h1 : j < vs.length) (h2 : j < ws.length), okLt (xs.getD j .none) (ys.getD j .none) = true → RcLt A s vs[j] ws[j] (ltD (xs.getD j .none) (ys.getD j .none))
  | [], _, _, _, _, _, _, _, ra, _, _, _, _, j, h1, _, _ => by
    cases ra
    exact absurd h1 (Nat.not_lt_zero _)
  | _ :: _, [], _, _, _, _, _, _, _, rb, _, _, _, j, _, h2, _ => by
    cases rb
    exact absurd h2 (Nat.not_lt_zero _)
  | x :: xs, y :: ys, A, s, _, _, _, _, ra, rb, la, lb, hu, j, h1, h2, hok => by
    have la' : x.canLay0 = true ∧ PyData.canLayAll0 xs = true := by simpa [PyData.canLayAll0] using la
    have lb' : y.canLay0 = true ∧ PyData.canLayAll0 ys = true := by simpa [PyData.canLayAll0] using lb
    cases ra with
    | cons r rs =>
      cases rb with
      | cons r' rs' =>
        cases j with
        | zero => exact rc_ok x y A s _ _ _ _ r r' la'.1 lb'.1 hok (room_head hu)
        | succ j => exact rc_okAll xs ys A s _ _ _ _ rs rs' la'.2 lb'.2 (room_tail hu) j (Nat.lt_of_succ_lt_succ h1) (Nat.lt_of_succ_lt_succ h2) hok
end
end SK
namespace SK
open PySem PySem.SeqAt PySem.W PySem.Calls PyProof.Rows
mutual
theorem alike_self : ∀ d : PyData, d.canLay0 = true → alike d d = true
  | .none, _ => rfl
  | .bool _, _ => rfl
  | .int _, _ => rfl
  | .str _, _ => rfl
  | .list xs, h => by
    show alikeAll xs xs = true
    exact alike_selfs xs (by simpa [PyData.canLay0] using h)
  | .tuple xs, h => by
    show alikeAll xs xs = true
    exact alike_selfs xs (by simpa [PyData.canLay0] using h)
  | .dict _, h => absurd h (by simp [PyData.canLay0])
theorem alike_selfs : ∀ ds : List PyData, PyData.canLayAll0 ds = true → alikeAll ds ds = true
  | [], _ => rfl
  | d :: ds, h => by
    have h' : d.canLay0 = true ∧ PyData.canLayAll0 ds = true := by simpa [PyData.canLayAll0] using h
    show (alike d d && alikeAll ds ds) = true
    rw [alike_self d h'.1, alike_selfs ds h'.2]
    rfl
end
mutual
theorem reads_one {h : Heap} : ∀ (d d' : PyData) (v : Value) (as as' : List Addr), d.canLay0 = true → d'.canLay0 = true → Reads h v d as → Reads h v d' as' → d = d'
  | .none, _, _, _, _, _, _, r, r' => by
    cases r
    cases r'
    rfl
  | .bool _, _, _, _, _, _, _, r, r' => by
    cases r
    cases r'
    rfl
  | .int _, _, _, _, _, _, _, r, r' => by
    cases r
    cases r'
    rfl
  | .str _, _, _, _, _, _, _, r, r' => by
    cases r
    cases r'
    rfl
  | .list xs, d', _, _, _, l, l', r, r' => by
    cases r with
    | list h1 h2 h3 h4 =>
      cases r' with
      | list k1 k2 k3 k4 =>
        rw [h1] at k1
        cases k1
        rw [h3] at k3
        cases k3
        rw [reads_ones xs _ _ _ _ (by simpa [PyData.canLay0] using l) (by simpa [PyData.canLay0] using l') h4 k4]
      | tuple k1 k2 k3 k4 =>
        rw [h1] at k1
        cases k1
        rw [h2] at k2
        exact absurd k2 (by simp)
      | dict k1 => exact absurd l' (by simp [PyData.canLay0])
  | .tuple xs, d', _, _, _, l, l', r, r' => by
    cases r with
    | tuple h1 h2 h3 h4 =>
      cases r' with
      | tuple k1 k2 k3 k4 =>
        rw [h1] at k1
        cases k1
        rw [h3] at k3
        cases k3
        rw [reads_ones xs _ _ _ _ (by simpa [PyData.canLay0] using l) (by simpa [PyData.canLay0] using l') h4 k4]
      | list k1 k2 k3 k4 =>
        rw [h1] at k1
        cases k1
        rw [h2] at k2
        exact absurd k2 (by simp)
      | dict k1 => exact absurd l' (by simp [PyData.canLay0])
  | .dict _, _, _, _, _, l, _, _, _ => absurd l (by simp [PyData.canLay0])
theorem reads_ones {h : Heap} : ∀ (ds ds' : List PyData) (vs : List Value) (as as' : List Addr), PyData.canLayAll0 ds = true → PyData.canLayAll0 ds' = true → ReadsAll h vs ds as → ReadsAll h vs ds' as' → ds = ds'
  | [], _, _, _, _, _, _, r, r' => by
    cases r
    cases r'
    rfl
  | d :: ds, _, _, _, _, l, l', r, r' => by
    cases r with
    | cons h1 h2 =>
      cases r' with
      | cons k1 k2 =>
        have q : d.canLay0 = true ∧ PyData.canLayAll0 ds = true := by simpa [PyData.canLayAll0] using l
        have q' := l'
        simp only [PyData.canLayAll0, Bool.and_eq_true] at q'
        rw [reads_one d _ _ _ _ q.1 q'.1 h1 k1, reads_ones ds _ _ _ _ q.2 q'.2 h2 k2]
end
/-! ### keys that are tuples, ordered by tokens -/
abbrev Tok' := PyData → List (Int ⊕ List Nat)
noncomputable def kk (h : Heap) (ds : List PyData) (tok : Tok') : PyProof.Rows.KeyKind where
  toKeyOrd := listOrd itemOrd
  keyOf v := open Classical in if q : ∃ d, d ∈ ds ∧ ∃ as, Reads h v d as then some (tok q.choose) else none
  dflt := ([] : List (Int ⊕ List Nat))
/-- the keys are tuples that can be asked for their order, and the tokens tell it -/
structure Keys (ds : List PyData) (tok : Tok') : Prop where
  lay : ∀ d ∈ ds, d.canLay0 = true
  tup : ∀ d ∈ ds, ∃ xs, d = .tuple xs
  ok : ∀ d ∈ ds, ∀ d' ∈ ds, okLt d d' = true
  lt : ∀ d ∈ ds, ∀ d' ∈ ds, ltD d d' = PyProof.Rows.lexLt itemOrd (tok d) (tok d')
  ty : ∀ x r y t, PyData.tuple (x :: r) ∈ ds → PyData.tuple (y :: t) ∈ ds → dataType x = dataType y
theorem kk_some {h : Heap} {ds : List PyData} {tok : Tok'} (hl : ∀ d ∈ ds, d.canLay0 = true) {v : Value} {d : PyData} {as : List Addr} (hd : d ∈ ds) (r : Reads h v d as) : (kk h ds tok).keyOf v = some (tok d) := by
  have q : ∃ d, d ∈ ds ∧ ∃ as, Reads h v d as := ⟨d, hd, as, r⟩
  have e : (kk h ds tok).keyOf v = some (tok q.choose) := dif_pos q
  obtain ⟨h1, as', h2⟩ := q.choose_spec
  rw [e, reads_one _ _ _ _ _ (hl _ h1) (hl _ hd) h2 r]
theorem kk_inv {h : Heap} {ds : List PyData} {tok : Tok'} {v : Value} {k : List (Int ⊕ List Nat)} (e : (kk h ds tok).keyOf v = some k) : ∃ d as, d ∈ ds ∧ Reads h v d as ∧ k = tok d := by
  by_cases q : ∃ d, d ∈ ds ∧ ∃ as, Reads h v d as
  · have e' : (kk h ds tok).keyOf v = some (tok q.choose) := dif_pos q
    obtain ⟨h1, as', h2⟩ := q.choose_spec
    rw [e'] at e
    exact ⟨_, as', h1, h2, (Option.some.inj e).symm⟩
  · have e' : (kk h ds tok).keyOf v = none := dif_neg q
    rw [e'] at e
    cases e
section
variable {prog : Program} {w : World} {A : Around} {E : Value → Shared → Prop} {s : Shared}
theorem one_ok {f : Bool} {da db : PyData} {a b : Value} {as bs : List Addr} {Q : Bool → Shared → Prop} (ra : Reads s.heap a da as) (rb : Reads s.heap b db bs) (la : da.canLay0 = true) (lb : db.canLay0 = true) (h : okLt da db = true)
    (hu : A.units + min da.depth db.depth < cLine) (hq : Q (ltD da db) s) : wpAny (model prog w) A (oneLt' f a b) Q E s := by
  cases f with
  | false =>
    rw [oneLt'_eq]
    simp only [Bool.false_eq_true, if_false]
    exact wpAny_bind (rc_ok da db A s a b as bs ra rb la lb h hu prog w E _ (wpAny_truthy_bool hq))
  | true =>
    cases da <;> cases db <;> first | (simp [okLt] at h; done) | skip
    · cases ra
      cases rb
      exact oneLt_bool hq
    · cases ra
      cases rb
      exact oneLt_int hq
    · cases ra
      cases rb
      exact oneLt_str hq
    · rename_i xs ys
      have hok : okAll xs ys = true := by simpa [okLt] using h
      have la' : PyData.canLayAll0 xs = true := by simpa [PyData.canLay0] using la
      have lb' : PyData.canLayAll0 ys = true := by simpa [PyData.canLay0] using lb
      cases ra with
      | @tuple l o us n _ as₁ h1 h2 h3 h4 =>
        cases rb with
        | @tuple l' o' ws n' _ bs₁ k1 k2 k3 k4 =>
          have n1 : us.size = xs.length := by simpa using ReadsAll.length _ _ _ h4
          have n2 : ws.size = ys.length := by simpa using ReadsAll.length _ _ _ k4
          have hq : Q (ltAll xs ys) s := hq
          rw [← first_all xs ys, ← n1, ← n2] at hq
          rw [oneLt'_eq]
          simp only [if_true]
          refine wpAny_bind (wpAny_cRoomFor (room_here hu) ?_)
          refine wpAny_bind (wpAny_callSpecialIfBound?_slot (T := "tuple") ⟨_, h1, h2⟩ F.slot_tuple_lt (call_tups (e := pairEq xs ys) (r := fun j => ltD (xs.getD j .none) (ys.getD j .none)) ⟨_, h1, h2, _, h3⟩ ⟨_, k1, k2, _, k3⟩ (fun j j1 j2 => ?_) (fun j j1 j2 hk hj => ?_) ?_))
          · have := eqAt_readsAll xs ys A.in1 s us.toList ws.toList _ _ h4 k4 la' lb' (room_in hu) j (by simpa using j1) (by simpa using j2)
            simpa using this
          · have := rc_okAll xs ys A.in1 s us.toList ws.toList _ _ h4 k4 la' lb' (room_in hu) j (by simpa using j1) (by simpa using j2) (okAll_at xs ys j hok hk hj (by omega) (by omega))
            simpa using this
          · exact wpAny_truthy_bool hq
theorem katLex_ok {b fin : Bool} {Q : Bool → Shared → Prop} : ∀ (xs ys : List PyData) (i : Nat) (vs ws : List Value) (as bs : List Addr), ReadsAll s.heap vs xs as → ReadsAll s.heap ws ys bs → PyData.canLayAll0 xs = true → PyData.canLayAll0 ys = true → okAll xs ys = true →
    A.units + min (PyData.depthAll xs) (PyData.depthAll ys) < cLine → fin = decide (xs.length < ys.length) → Q (ltAll xs ys) s → KatLex prog w A b fin Q (vs.zip ws) i s
  | [], [], i, _, _, _, _, ra, rb, _, _, _, _, hf, hq => by
    cases ra
    cases rb
    have e : fin = false := by rw [hf]; rfl
    subst e
    exact kat_nil hq
  | [], y :: ys, i, _, _, _, _, ra, rb, _, _, _, _, hf, hq => by
    cases ra
    have e : fin = true := by rw [hf]; exact decide_eq_true (Nat.succ_pos _)
    subst e
    rw [List.zip_nil_left]
    exact kat_nil hq
  | x :: xs, [], i, _, _, _, _, ra, rb, _, _, _, _, hf, hq => by
    cases rb
    have e : fin = false := by rw [hf]; exact decide_eq_false (Nat.not_lt_zero _)
    subst e
    rw [List.zip_nil_right]
    exact kat_nil hq
  | x :: xs, y :: ys, i, _, _, _, _, ra, rb, la, lb, h, hu, hf, hq => by
    have la' : x.canLay0 = true ∧ PyData.canLayAll0 xs = true := by simpa [PyData.canLayAll0] using la
    have lb' : y.canLay0 = true ∧ PyData.canLayAll0 ys = true := by simpa [PyData.canLayAll0] using lb
    have hf' : fin = decide (xs.length < ys.length) := by
      rw [hf]
      simp only [List.length_cons, Nat.add_lt_add_iff_right]
    cases ra with
    | cons r rs =>
      cases rb with
      | cons r' rs' =>
        rw [List.zip_cons_cons]
        refine kat_cons (eqAt_reads x y A s _ _ _ _ r r' la'.1 lb'.1 (room_head hu) prog w _ _ ?_)
        cases hx : PyData.eqv x y with
        | true =>
          simp only [okAll, ltAll, hx, if_true] at h hq
          exact kat_yes (katLex_ok xs ys (i + 1) _ _ _ _ rs rs' la'.2 lb'.2 h (room_tail hu) hf' hq)
        | false =>
          simp only [okAll, ltAll, hx, Bool.false_eq_true, if_false] at h hq
          exact kat_no (one_ok r r' la'.1 lb'.1 h (room_head hu) hq)
end
end SK
namespace SK
open PySem PySem.SeqAt PySem.W PySem.Calls PyProof.Rows
section
variable {prog : Program} {w : World} {A : Around} {E : Value → Shared → Prop} {s : Shared}
/-- what firstOfTuple gives, key by key -/
theorem kFirsts : ∀ {vs : List Value} {ds : List PyData}, EachIs (fun v d => ∃ as, Reads s.heap v d as) vs ds → (∀ d ∈ ds, ∃ xs, d = PyData.tuple xs) → ∃ os : List (Option Value), os.length = vs.length ∧
    (∀ (M : Model) (A : Around) (E : Value → Shared → Prop) (Q : List (Option Value) → Shared → Prop), Q os s → wpAny M A (vs.mapM firstOfTuple') Q E s) ∧ ∀ (i : Nat) (o : Option Value), os[i]? = some o → ∃ xs, ds[i]? = some (PyData.tuple xs) ∧ (o = none ↔ xs = [])
  | _, _, .nil, _ => ⟨[], rfl, fun M A E Q h => by rw [List.mapM_nil]; exact wpAny_pure h, fun i o h => by cases h⟩
  | _, _, .cons (a := v) (b := d) (as := vs) (bs := ds) ⟨as, r⟩ t, ht => by
    obtain ⟨os, h1, h2, h3⟩ := kFirsts t fun d hd => ht d (List.mem_cons_of_mem _ hd)
    obtain ⟨xs, rfl⟩ := ht d List.mem_cons_self
    cases r with
    | @tuple a o us n _ _ ho hc hd hr =>
      refine ⟨us[0]? :: os, by rw [List.length_cons, List.length_cons, h1], fun M A E Q h => ?_, fun i o' e => ?_⟩
      · rw [List.mapM_cons]
        refine wpAny_bind ?_
        rw [kas_first_eq]
        refine wpAny_bind (Looks.here (show Looks M s.heap (typeOf (.ref a)) o.cls from (Looks.ld ho).andThen .now) ?_)
        rw [hc, if_neg (by first | decide | simp)]
        refine wpAny_bind (listItems_at ho hd (wpAny_pure ?_))
        exact wpAny_bind (h2 M A E (fun bs s' => wpAny M A (pure (us[0]? :: bs)) Q E s') (wpAny_pure h))
      · cases i with
        | zero =>
          have e' : o' = us[0]? := (Option.some.inj e).symm
          refine ⟨xs, rfl, ?_⟩
          rw [e', ← Array.getElem?_toList]
          cases q : us.toList with
          | nil =>
            rw [q] at hr
            cases hr
            simp
          | cons f fr =>
            rw [q] at hr
            cases hr
            simp
        | succ i => exact h3 i o' e
theorem kFulls : ∀ {vs : List Value} {ds : List PyData}, EachIs (fun v d => ∃ as, Reads s.heap v d as) vs ds → (∀ d ∈ ds, ∃ x r, d = .tuple (x :: r)) → ∃ fs, KatTups s.heap vs fs ∧ fs.length = vs.length ∧ ∀ f ∈ fs, ∃ x r as, PyData.tuple (x :: r) ∈ ds ∧ Reads s.heap f x as :=
  fun e h => each_katTups e h
theorem kKinds {vs : List Value} {ds : List PyData} (e : EachIs (fun v d => ∃ as, Reads s.heap v d as) vs ds) (ht : ∀ d ∈ ds, ∃ xs, d = PyData.tuple xs) (hn : PyData.tuple [] ∈ ds) (h2 : 2 ≤ vs.length) :
    ∃ kd : SortKind, (kd = general' ∨ kd = oneType') ∧ ∀ (E : Value → Shared → Prop) (Q : SortKind → Shared → Prop), Q kd s → wpAny (model prog w) A (keyKind' vs.toArray) Q E s := by
  obtain ⟨os, l1, l2, l3⟩ := kFirsts e ht
  have no : none ∈ os := by
    obtain ⟨i, hi⟩ := List.mem_iff_getElem?.mp hn
    have li : i < os.length := by
      have := (List.getElem?_eq_some_iff.mp hi).1
      rw [l1, e.length]
      exact this
    obtain ⟨xs, e1, e2⟩ := l3 i os[i] (List.getElem?_eq_getElem li)
    rw [hi] at e1
    cases e1
    rw [← e2.mpr rfl]
    exact List.getElem_mem li
  have nall : (os.toArray.all fun x => x.isSome) = false := by
    rw [List.all_toArray]
    exact List.all_eq_false.mpr ⟨none, no, by simp⟩
  refine ⟨if (os.toArray[0]?.bind id).isSome = true then general' else oneType', by split <;> simp, fun E Q hq => ?_⟩
  rw [kat_kind_eq, List.mapM_toArray, map_eq_pure_bind]
  refine wpAny_bind (wpAny_bind (l2 _ _ _ _ (wpAny_pure ?_)))
  rw [if_neg (by rw [nall]; decide)]
  by_cases hg : (os.toArray[0]?.bind id).isSome = true
  · rw [if_pos hg] at hq ⊢
    exact wpAny_pure hq
  · rw [if_neg hg] at hq ⊢
    rw [oneTypeOnly'_eq, List.mapM_toArray, map_eq_pure_bind]
    have hT : ∀ v ∈ vs, Looks (model prog w) s.heap (typeOf v) (Value.type "tuple") := fun v hv => by
      obtain ⟨d, hd, as, r⟩ := e.left v hv
      obtain ⟨xs, rfl⟩ := ht d hd
      exact looks_reads r
    refine wpAny_bind (wpAny_bind (wpAny_bind (kas_mapM (r := Value.type "tuple") _ (fun v hv Q' hq => (hT v hv).here hq) (wpAny_pure ?_))))
    obtain ⟨v₁, r, rfl⟩ : ∃ v₁ r, vs = v₁ :: r := by
      cases vs with
      | nil => exact absurd h2 (by simp)
      | cons a b => exact ⟨a, b, rfl⟩
    have hall : ((List.map (fun _ => Value.type "tuple") (v₁ :: r)).toArray.all fun x => x == Value.type "tuple") = true := by
      simp only [List.all_toArray, List.all_map, List.all_eq_true]
      intro _ _
      rfl
    rw [show (List.map (fun _ => Value.type "tuple") (v₁ :: r)).toArray[0]? = some (Value.type "tuple") by simp]
    simp only [hall, if_true]
    exact wpAny_pure (wpAny_pure hq)
/-- such keys can be sorted -/
theorem sorts_at {vs : List Value} {ds : List PyData} {tok : Tok'} (K : Keys ds tok) (e : EachIs (fun v d => ∃ as, Reads s.heap v d as) vs ds) (hu : ∀ d, d ∈ ds → A.units + d.depth < cLine) : SortsAt prog w A s (kk s.heap ds tok) vs := by
  have room : ∀ {d d' : PyData}, d ∈ ds → A.units + min d.depth d'.depth < cLine := fun {d d'} hd => Nat.lt_of_le_of_lt (Nat.add_le_add_left (Nat.min_le_left _ _) _) (hu d hd)
  refine ⟨fun v hv => ?_, ?_⟩
  · obtain ⟨d, hd, as, r⟩ := e.left v hv
    exact ⟨_, kk_some K.lay hd r⟩
  have asked : ∀ (kd : SortKind), (∀ {da db : PyData} {a b : Value} {as bs : List Addr} {E : Value → Shared → Prop} {Q : Bool → Shared → Prop}, da ∈ ds → db ∈ ds → Reads s.heap a da as → Reads s.heap b db bs → Q (ltD da db) s → wpAny (model prog w) A (keyLt' kd a b) Q E s) → H.LtAt prog w A s (kk s.heap ds tok) kd := fun kd h E x y a b Q ha hb hq => by
    obtain ⟨d, as, hd, ra, rfl⟩ := kk_inv ha
    obtain ⟨d', bs, hd', rb, rfl⟩ := kk_inv hb
    refine h hd hd' ra rb ?_
    rw [K.lt d hd d' hd']
    exact hq
  by_cases hn : PyData.tuple [] ∈ ds
  · by_cases h2 : 2 ≤ vs.length
    · obtain ⟨kd, hk, hr⟩ := kKinds (prog := prog) (w := w) (A := A) e K.tup hn h2
      refine ⟨kd, asked kd fun {da db a b as bs E Q} hd hd' ra rb hq => ?_, fun _ E Q hq => hr E Q hq⟩
      rcases hk with rfl | rfl
      · exact one_ok (f := false) ra rb (K.lay _ hd) (K.lay _ hd') (K.ok _ hd _ hd') (room hd) hq
      · exact one_ok (f := true) ra rb (K.lay _ hd) (K.lay _ hd') (K.ok _ hd _ hd') (room hd) hq
    · exact ⟨general', asked _ fun {da db a b as bs E Q} hd hd' ra rb hq => one_ok (f := false) ra rb (K.lay _ hd) (K.lay _ hd') (K.ok _ hd _ hd') (room hd) hq, fun h => absurd h h2⟩
  · have full : ∀ d ∈ ds, ∃ x r, d = .tuple (x :: r) := fun d hd => by
      obtain ⟨xs, rfl⟩ := K.tup d hd
      cases xs with
      | nil => exact absurd hd hn
      | cons x r => exact ⟨x, r, rfl⟩
    obtain ⟨fs, t1, t2, t3⟩ := kFulls e full
    by_cases h2 : 2 ≤ vs.length
    · obtain ⟨f0, fr, ef⟩ : ∃ f0 fr, fs = f0 :: fr := by
        cases fs with
        | nil =>
          rw [List.length_nil] at t2
          omega
        | cons a b => exact ⟨a, b, rfl⟩
      obtain ⟨x0, r0, as0, m0, q0⟩ := t3 f0 (by rw [ef]; exact List.mem_cons_self)
      refine ⟨tuples' (dataType x0 != Value.type "tuple"), asked _ fun {da db a b as bs E Q} hd hd' ra rb hq => ?_, fun _ E Q hq => ?_⟩
      · have hok := K.ok _ hd _ hd'
        have la := K.lay _ hd
        have lb := K.lay _ hd'
        have hr := room (d' := db) hd
        obtain ⟨xs, rfl⟩ := K.tup _ hd
        obtain ⟨ys, rfl⟩ := K.tup _ hd'
        cases ra with
        | @tuple l o us n _ _ h1 h2 h3 h4 =>
          cases rb with
          | @tuple l' o' ws n' _ _ k1 k2 k3 k4 =>
            have n1 : us.size = xs.length := by simpa using ReadsAll.length _ _ _ h4
            have n2 : ws.size = ys.length := by simpa using ReadsAll.length _ _ _ k4
            exact kat_lt h1 h3 k1 k3 (katLex_ok xs ys 0 _ _ _ _ h4 k4 (by simpa [PyData.canLay0] using la) (by simpa [PyData.canLay0] using lb) (by simpa [okLt] using hok) (by have q := room_in hr; omega) (by rw [n1, n2]) hq)
      · refine kat_kind (T := dataType x0) t1 (by omega) (fun f hf => ?_) (beq_self_eq_true _) hq
        obtain ⟨x, r, as, m1, m2⟩ := t3 f hf
        rw [K.ty x0 r0 x r m0 m1]
        exact looks_reads m2
    · exact ⟨general', asked _ fun {da db a b as bs E Q} hd hd' ra rb hq => one_ok (f := false) ra rb (K.lay _ hd) (K.lay _ hd') (K.ok _ hd _ hd') (room hd) hq, fun h => absurd h h2⟩
end
end SK
namespace SK
open PySem PySem.SeqAt PySem.W PySem.Calls PyProof.Rows
/-- keys that can be sorted, the tokens tell their order -/
structure KeysG (ds : List PyData) (tok : Tok') : Prop where
  lay : ∀ d ∈ ds, d.canLay0 = true
  sorts : ∀ {prog : Program} {w : World} {A : Around} {s : Shared} {vs : List Value}, EachIs (fun v d => ∃ as, Reads s.heap v d as) vs ds → (∀ d, d ∈ ds → A.units + d.depth < cLine) → SortsAt prog w A s (kk s.heap ds tok) vs
theorem Keys.g {ds : List PyData} {tok : Tok'} (K : Keys ds tok) : KeysG ds tok := ⟨K.lay, fun e hu => sorts_at K e hu⟩
/-- keys that are alike, place by place -/
theorem keysG_alike {ds : List PyData} (lay : ∀ d ∈ ds, d.canLay0 = true) (hal : AllAlike ds) (hk : Sortable ds) : KeysG ds keyToks := ⟨lay, fun e hu => SortsAt.data e hal hk hu⟩
end SK
namespace SK
open PySem PySem.SeqAt PySem.W PySem.Calls PyProof.Rows L2
/-! ### sorted(xs, key=f), f a def of the text -/
theorem dp_same {K : PySem.W.Frag} {H H' : Hp} (s : ∀ b o, H b = some o → H' b = some o) : ∀ (d : PyData) (v : V), Dp K H v d → Dp K H' v d
  | .none, _, h => by
    cases h
    exact .non
  | .bool _, _, h => by
    cases h
    exact .bl _
  | .int _, _, h => by
    cases h
    exact .int _
  | .str _, _, h => by
    cases h
    exact .str _
  | .list ds, _, h => by
    cases h with
    | lst h1 h2 =>
      refine .lst ?_ (dp_sames s ds _ h2)
      rcases h1 with (h | ⟨o, h⟩) | h
      · exact .inl (.inl (s _ _ h))
      · exact .inl (.inr ⟨o, s _ _ h⟩)
      · exact .inr h
  | .tuple ds, _, h => by
    cases h with
    | tup h1 h2 =>
      refine .tup ?_ (dp_sames s ds _ h2)
      rcases h1 with (h | ⟨o, h⟩) | h
      · exact .inl (.inl (s _ _ h))
      · exact .inl (.inr ⟨o, s _ _ h⟩)
      · exact .inr h
  | .dict _, _, h => by cases h
where dp_sames {K : PySem.W.Frag} {H H' : Hp} (s : ∀ b o, H b = some o → H' b = some o) : ∀ (ds : List PyData) (vs : List V), DpAll K H vs ds → DpAll K H' vs ds
  | [], _, h => by
    cases h
    exact .nil
  | d :: ds, _, h => by
    cases h with
    | cons h1 h2 => exact .cons (dp_same s d _ h1) (dp_sames s ds _ h2)
/-- the items in the order of their keys -/
def byKey (tok : Tok') (xs : List V) (kz : List PyData) : List V := ((xs.zip kz).mergeSort (sortLe (listOrd itemOrd) false fun b => tok b.2)).map (·.1)
theorem each_zip : ∀ {xs : List V} {vs : List Value} {kz : List PyData}, Vals xs vs → kz.length = xs.length → EachIs (fun v (b : V × PyData) => RelV b.1 v) vs (xs.zip kz)
  | [], _, kz, .nil, _ => by
    rw [List.zip_nil_left]
    exact .nil
  | x :: xs, _, [], _, h => absurd h (by simp)
  | x :: xs, _, k :: kz, .cons r t, h => by
    rw [List.zip_cons_cons]
    exact .cons r (each_zip t (Nat.succ.inj h))
theorem each_snd {R : Value → PyData → Prop} : ∀ {xs : List V} {ks : List Value} {kz : List PyData}, EachIs R ks kz → kz.length = xs.length → EachIs (fun v (b : V × PyData) => R v b.2) ks (xs.zip kz)
  | [], _, [], .nil, _ => .nil
  | _ :: _, _, [], .nil, h => absurd h (by simp)
  | [], _, _ :: _, _, h => absurd h (by simp)
  | x :: xs, _, k :: kz, .cons r t, h => by
    rw [List.zip_cons_cons]
    exact .cons r (each_snd t (Nat.succ.inj h))
theorem vals_each : ∀ {bs : List (V × PyData)} {vs : List Value}, EachIs (fun v (b : V × PyData) => RelV b.1 v) vs bs → Vals (bs.map (·.1)) vs
  | _, _, .nil => .nil
  | _, _, .cons r t => .cons r (vals_each t)
section
variable {X : Cx} {pins : List (Addr × Obj)} {σ : L2.St} {H : Hp} {s : Shared}
theorem each_reads (I : Inv X pins σ H s) : ∀ {kvs : List V} {ks : List Value} {kz : List PyData}, Vals kvs ks → DpAll X.K H kvs kz → EachIs (fun v k => ∃ as, Reads s.heap v k as) ks kz
  | _, _, _, .nil, .nil => .nil
  | _, _, _, .cons r t, .cons h1 h2 => .cons (Dp.reads I _ _ _ h1 r) (each_reads I t h2)
theorem dp_snoc {K : PySem.W.Frag} {v : V} {d : PyData} (h : Dp K H v d) : ∀ {vs : List V} {ds : List PyData}, DpAll K H vs ds → DpAll K H (vs ++ [v]) (ds ++ [d])
  | _, _, .nil => .cons h .nil
  | _, _, .cons a b => .cons a (dp_snoc h b)
theorem dpAll_len {K : PySem.W.Frag} {H : Hp} : ∀ {vs : List V} {ds : List PyData}, DpAll K H vs ds → vs.length = ds.length
  | _, _, .nil => rfl
  | _, _, .cons _ t => congrArg (· + 1) (dpAll_len t)
theorem v_rest {a kS f : Addr} {fd : FuncData} {n : Nat} {sp : Sp} {ps : List Str} {e1 : Nat} {P : PySem.Fin → Shared → Prop} {E : Value → Shared → Prop} {xs : List V} {vs : List Value} {kz : List PyData} {tok : Tok'} {ks0 : Unit}
    (F : FnOk X.prog X.w X.K X.mg X.base CX0 n f fd ps sp) (hr : Room n X.A.in1.in1) (hb : Binds X.K fd ps []) (h1 : ps.length = 1) (K : KeysG kz tok) (I : Inv X pins σ H s) (fa : FpOk X pins H a) (fk : FpOk X pins H kS)
    (nk : s.heap.get? kS = some (seqObj "list" #[] 0)) (na : s.heap.get? a = some (seqObj "list" #[] e1)) (ne : kS ≠ a) (rv : Vals xs vs) (len : kz.length = xs.length) (big : xs.length ≤ sizeLine) (hu : ∀ d, d ∈ kz → X.A.in1.in1.units + d.depth < cLine)
    (call : ∀ (i : Nat) (x : V) (k : PyData), xs[i]? = some x → kz[i]? = some k → ∀ H1, Same H H1 → sp [x] H1 (fun v H2 => Dp X.K H2 v k ∧ Same H1 H2) fun _ _ _ => False)
    (h : ∀ (Hn : Hp) (sn : Shared), Inv X pins σ (upd Hn a (.lst (byKey tok xs kz))) sn → Same H Hn → P (.done (.ret .none)) sn) :
    wpAny (model X.prog X.w) X.A.in1.in1 (ksk_rest a (.ref f) false vs.toArray e1 (.ref kS)) P E s := by
  have lv := rv.length
  let St : Nat → Shared → Prop := fun i s' => ∃ Hi kvs ks c, Inv X pins σ Hi s' ∧ Same H Hi ∧ Hi a = none ∧ Hi kS = none ∧ s'.heap.get? kS = some (seqObj "list" ks c) ∧ s'.heap.get? a = some (seqObj "list" #[] e1) ∧ Vals kvs ks.toList ∧ DpAll X.K Hi kvs (kz.take i)
  have nfs : ∀ b, FpOk X pins H b → b ∉ frs X.stack := fun b fb hb => by
    rcases List.mem_cons.mp (I.stkSub b hb) with z | z
    · exact fb.2.1 z
    · exact fb.2.2.1 z
  unfold ksk_rest
  refine wpAny_bind (wpAny_rule ?_)
  first
    | rw [List.forIn_toArray]
    | (rw [← Array.forIn_toList]; simp only [List.toList_toArray])
    | rw [← Array.forIn_toList]
  refine wpAny_bind (ksk_fold St vs 0 s ⟨H, [], #[], 0, I, fun _ _ e => e, fa.1, fk.1, nk, na, .nil, by rw [List.take_zero]; exact .nil⟩ ?each ?after)
  case each =>
    rintro j v s' hv ⟨Hi, kvs, ks, c, Ii, sm, ha, hk, nk', na', rk, rd⟩
    simp only [Nat.zero_add] at rd ⊢
    have lj : j < xs.length := by
      have := (List.getElem?_eq_some_iff.mp hv).1
      omega
    obtain ⟨u, hu1, rx⟩ := rv.get (i := j) (List.getElem?_eq_getElem lj)
    obtain rfl : u = v := Option.some.inj (hu1.symm.trans hv)
    have hkj : kz[j]? = some kz[j] := List.getElem?_eq_getElem (by omega)
    have run : wpAny (model X.prog X.w) X.A.in1.in1 (PySem.call (.ref f) [u]) (fun r s2 => CE X.stack X.prog X.w Hi s' (fun v H2 => Dp X.K H2 v kz[j] ∧ Same Hi H2) r s2) (fun _ _ => False) s' := by
      refine wpAny_call (codeAny_mono (F.run X.A.in1.in1 X.stack s' Hi ⟨[u], []⟩ ([u] ++ []) [xs[j]] _ _ hr Ii.env0.in1.in1 (hb s' [u] Ii.kIn h1.symm) (.cons rx .nil) (call j _ _ (List.getElem?_eq_getElem lj) hkj Hi sm)) fun r s2 hq => ?_)
      cases r with
      | error e => exact False.elim hq
      | ok fl =>
        cases fl with
        | ret u => exact hq
        | next => exact False.elim hq
        | brk => exact False.elim hq
        | cont => exact False.elim hq
    refine wpAny_bind (wpAny_attempt (wpAny_mono run (fun r s2 he => ?_) fun _ _ z => z.elim))
    obtain ⟨v', H2, os, bare, un, hok, rr, dp, sm2⟩ := he
    have I2 : Inv X pins σ H2 s2 := Ii.call' (ch := []) os un hok bare (by simp)
    have nk2 := un.keep kS _ nk' hk (nfs kS fk) (by simp)
    have na2 := un.keep a _ na' ha (nfs a fa) (by simp)
    have hk2 := un.free kS _ nk' hk (by simp)
    have ha2 := un.free a _ na' ha (by simp)
    try dsimp only
    have sz : ks.size ≤ sizeLine := by
      have q1 : ks.size = kvs.length := by
        rw [← Array.length_toList]
        exact (Vals.length rk).symm
      have q2 : kvs.length = (kz.take j).length := dpAll_len rd
      rw [List.length_take] at q2
      omega
    have szj : ks.size < sizeLine + 1 := Nat.lt_succ_of_le sz
    have same := Heap.SameBut.update s2.heap kS (Obj.mapSeq (·.push r))
    obtain ⟨c2, hc2⟩ : ∃ c2, (s2.heap.update kS (Obj.mapSeq (·.push r))).get? kS = some (seqObj "list" (ks.push r) c2) := ⟨_, get?_update_seq nk2 (·.push r)⟩
    refine wpAny_bind (listUpdate_at nk2 rfl ?_ sz (Nat.le_trans (Nat.le_of_eq (Array.size_push ..)) (Nat.succ_le_succ sz)))
    refine wpAny_pure ⟨rfl, H2, kvs ++ [v'], ks.push r, c2, I2.turned (t' := s2.toks) (fun b o hb e => (same.2 b hb).trans e) hk2 fk.2.1 fk.2.2.2.1 fk.2.2.2.2.1 fk.2.2.2.2.2, sm.trans sm2, ha2, hk2, hc2, (same.2 a ne.symm).trans na2, ?_, ?_⟩
    · rw [show (ks.push r).toList = ks.toList ++ [r] by simp]
      exact Vals.append rk (.cons rr .nil)
    · rw [show kz.take (j + 1) = kz.take j ++ [kz[j]] by rw [List.take_add_one, hkj]; simp]
      exact dp_snoc dp (dp_same.dp_sames sm2 _ _ rd)
  case after =>
    rintro s' ⟨Hn, kvs, ks, c, In, sm, ha, hk, nk', na', rk, rd⟩
    rw [show kz.take (0 + vs.length) = kz from List.take_of_length_le (by omega)] at rd
    have all := each_reads In rk rd
    have sz : ks.size = vs.length := by
      have q := all.length
      rw [Array.length_toList] at q
      omega
    try dsimp only
    refine wpAny_bind (listItems_at nk' rfl ?_)
    refine keyH_end (κ := kk s'.heap kz tok) (h₁ := hideAll s'.heap [kS]) (fun b o _ q => of_hideAll _ q) (hideAll_none _ (List.mem_singleton.mpr rfl)) nk' na' ne (K.sorts all hu) sz (by omega) fun g tk c3 keep hg => ?_
    have out : EachIs (fun v (b : V × PyData) => RelV b.1 v) (sortVals (kk s'.heap kz tok) false ks.toList vs) ((xs.zip kz).mergeSort (sortLe (listOrd itemOrd) false fun b => tok b.2)) :=
      sortVals_each (κ := kk s'.heap kz tok) (fun b : V × PyData => tok b.2) (each_zip rv len) (each_snd (R := fun v d => (kk s'.heap kz tok).keyOf v = some (tok d)) ((each_mem all).mono fun v d q => by
        obtain ⟨⟨as, r⟩, hd⟩ := q
        exact kk_some K.lay hd r) len)
    have ol : (byKey tok xs kz).length ≤ sizeLine := by
      unfold byKey
      rw [List.length_map, List.length_mergeSort, List.length_zip]
      omega
    have kp : ∀ b o, b ≠ a → b ≠ kS → s'.heap.get? b = some o → g.get? b = some o := fun b o x y e => keep b o x (hideAll_get _ e (by simpa using y))
    have tr : ∀ b u, Hn b = some u → b ≠ a ∧ b ≠ kS := fun b u e => ⟨(fun z => by
      rw [z, ha] at e
      cases e), (fun z => by
      rw [z, hk] at e
      cases e)⟩
    have over : ∀ b u, Hn b = some u → upd Hn a (.lst (byKey tok xs kz)) b = some u := fun b u e => by
      rw [upd_ne (tr b u e).1]
      exact e
    refine h Hn _ (In.call (ch := [a, kS]) (g' := s'.gens) (d' := s'.drawn) (t' := tk) (h' := g) ⟨fun b o e n _ x => kp b o (fun z => x (by simp [z])) (fun z => x (by simp [z])) e, fun b o e n _ x => ⟨o.slots, kp b o (fun z => x (by simp [z])) (fun z => x (by simp [z])) e⟩,
      fun b o e n x => by rw [upd_ne (fun z => x (by simp [z]))]; exact n, fun b o e x => ⟨o, kp b o (fun z => x (by simp [z])) (fun z => x (by simp [z])) e⟩, fun b xs e => over b _ e, fun b o u e => over b _ e, fun b ps e => ⟨#[], by rw [Array.append_empty]; exact over b _ e⟩⟩ (fun b u e => ?_) In.bare fun b hb' => ?_) sm
    · by_cases z : b = a
      · subst z
        rw [upd_same] at e
        cases e
        exact ⟨ol, _, c3, vals_each out, hg⟩
      · rw [upd_ne z] at e
        exact (In.hok b u e).stay (fun c v hc q => by
          rcases hc with rfl | hc
          · exact kp _ _ (tr _ _ e).1 (tr _ _ e).2 q
          · exact kp _ _ (tr _ _ hc).1 (tr _ _ hc).2 q) (fun c q => over c _ q) fun c ys q => over c _ q
    · rcases List.mem_cons.mp hb' with rfl | hb'
      · exact ⟨fa.2.2.2.1, fa.2.1, fa.2.2.2.2.1, fa.2.2.2.2.2⟩
      · obtain rfl := List.mem_singleton.mp hb'
        exact ⟨fk.2.2.2.1, fk.2.1, fk.2.2.2.2.1, fk.2.2.2.2.2⟩
/-- the reading of sorted(xs, key=f) -/
def rSortF (K : PySem.W.Frag) (f : Addr) (sp : Sp) : List V → List V → Hp → VK → Prop := fun vs zs H Q => ∃ (l : Addr) (xs : List V) (kz : List PyData) (tok : Tok'), vs = [.ref l] ∧ zs = [.ref f] ∧ SqL K H l xs ∧ kz.length = xs.length ∧ KeysG kz tok ∧ (∀ d ∈ kz, d.depth ≤ 60) ∧
  (∀ (i : Nat) (x : V) (k : PyData), xs[i]? = some x → kz[i]? = some k → ∀ H1, Same H H1 → sp [x] H1 (fun v H2 => Dp K H2 v k ∧ Same H1 H2) fun _ _ _ => False) ∧
  ∀ (p : Addr) (H1 : Hp), H p = none → Same H H1 → H1 p = some (.lst (byKey tok xs kz)) → Q (.ref p) H1
theorem cr_sortF {f : Addr} {fd : FuncData} {n : Nat} {sp : Sp} {ps : List Str} (F : FnOk X.prog X.w X.K X.mg X.base CX0 n f fd ps sp) (hr : Room (n + 2) X.A) (hb : Binds X.K fd ps []) (h1 : ps.length = 1) :
    CallRK X (.builtin "sorted") [Str.ofString "key"] (rSortF X.K f sp) := by
  intro pins s σ H vs zs us ws Q I r rz h
  obtain ⟨l, xs, kz, tok, rfl, rfl, hs, len, K, dep, call, q⟩ := h
  obtain rfl := Vals.ref1 r
  obtain rfl := Vals.ref1 rz
  obtain ⟨its, rv, hl, big⟩ := I.list hs
  have lv := rv.length
  refine sorted_of_sort hl.isList (by omega) (ksk_s1 _ _) (fun _ => ksk_l1 _ _) fun E' => ?_
  show wpAny _ _ (Builtin.«list.sort» ⟨[.ref _], [(Str.ofString "key", .ref f)]⟩) _ _ _
  rw [ksk_t1]
  have ho := copyHeap_at s.heap its
  have la : s.heap.objs.size + 1 < (copyHeap s.heap its).objs.size := Heap.lt_size ho
  obtain ⟨e1, ho1⟩ : ∃ e1, ((copyHeap s.heap its).update (s.heap.objs.size + 1) (Obj.mapSeq fun _ => (#[] : Array Value))).get? (s.heap.objs.size + 1) = some (seqObj "list" #[] e1) := ⟨_, get?_update_seq ho fun _ => #[]⟩
  unfold ksk_tree
  refine wpAny_bind (listItems_at ho rfl (wpAny_bind (listUpdate_at ho rfl ?_ (by rw [List.size_toArray]; omega) (Nat.zero_le _))))
  refine wpAny_bind (seqEpoch_at ho1 rfl (wpAny_bind (wpAny_newTuple ?_ (by show its.length ≤ _; omega))))
  refine wpAny_bind (wpAny_newList ?_ (Nat.zero_le _))
  refine wpAny_holding ?_
  have szS : (((copyHeap s.heap its).update (s.heap.objs.size + 1) (Obj.mapSeq fun _ => (#[] : Array Value))).push (seqObj "tuple" its.toArray 0)).objs.size = (copyHeap s.heap its).objs.size + 1 := by rw [size_push', Heap.size_update]
  have old : ∀ b o, s.heap.get? b = some o → (((((copyHeap s.heap its).update (s.heap.objs.size + 1) (Obj.mapSeq fun _ => (#[] : Array Value))).push (seqObj "tuple" its.toArray 0)).push (seqObj "list" #[] 0))).get? b = some o := fun b o e => sorting_copy_old e
  have fra : H (s.heap.objs.size + 1) = none := I.hok.fresh (Nat.le_succ _)
  have n3 := line63
  refine v_rest (ks0 := ()) (n := n) F hr.in1.in1 hb h1 K (I.kept (t' := s.toks) old) (I.fpOk (Nat.le_succ _) fra)
    (I.fpOk (b := (((copyHeap s.heap its).update (s.heap.objs.size + 1) (Obj.mapSeq fun _ => (#[] : Array Value))).push (seqObj "tuple" its.toArray 0)).objs.size) (by rw [szS]; omega) (I.hok.fresh (by rw [szS]; omega)))
    (Heap.get?_push_size _ rfl) (Heap.get?_push_of_some _ (Heap.get?_push_of_some _ ho1)) (by rw [szS]; exact Nat.ne_of_gt (Nat.lt_succ_of_lt la)) rv len big (fun d hd => ?_) call fun Hn sn In sm => ⟨rfl, ?_⟩
  · have h2 := hr.un
    have h3 := dep d hd
    show X.A.units + 1 + 1 + d.depth < cLine
    omega
  · refine ⟨.ref _, _, In, rfl, q _ _ fra (fun b o e => ?_) upd_same⟩
    rw [upd_ne (ne_of_none e fra)]
    exact sm b o e
end
end SK
namespace DcT
open PySem PySem.Spec PyProof.Rows L2
/-! ### {k: v for target in iter if ..} whose keys are tuples of ints and texts; also as x = {..} -/
section
variable {X : Cx}
theorem setT {pins : List (Addr × Obj)} {σ : L2.St} {H : Hp} {s : Shared} {E : Value → Shared → Prop} {D b : Addr} {kvs : List (List Key × V)} {k : List Key} {v : V} {r : Value} {Q : Unit → Shared → Prop} (hu : X.A.units + 1 < cLine) (I : Inv X pins σ H s) (hD : H D = some (.dT kvs)) (hz : kvs.length < sizeLine)
    (hk : H b = some (.tup (k.map kV))) (rv : RelV v r) (h : ∀ s', Inv X pins σ (upd H D (.dT (putK kvs k v))) s' → Q () s') : wpAny (model X.prog X.w) X.A (dictSet D (.ref b) r) Q E s := by
  obtain ⟨z, ns, xs, rel, dd⟩ := dt_of I.hok hD
  have le : (putK kvs k v).length ≤ sizeLine := by have := length_putK kvs k v; omega
  refine wpAny_dictSet_heap (hsz := by rw [← Paired.length rel]; exact z) (Nat.lt_of_succ_lt hu) (key_of I.hok hk) dd fun h' d2 same => h _ ?_
  obtain ⟨q, es, ep, e1, e2, e3, e4, _, e5⟩ := d2
  refine d_write I (by rw [hD]; exact True.intro) same ⟨q, e1⟩ ⟨le, ns, _, (rel.put k hk rv).keeps fun c ys ec => ?_, q, es, ep, e1, e2, e3, e4, e5⟩
  rw [upd_ne (ne_of ec hD (fun z => nomatch z))]
  exact ec
def tD (wi : TI) (g : TG) (tt : TT) (tk tv : TE) (vs : List Nat) : TE := fun σ H Q => wi σ H fun J H1 => ∀ D, H1 D = none → ∃ W : Nat → Nat → Hp → Prop, (∃ m, W 0 m (upd H1 D (.dT []))) ∧ ∀ i m H, W i m H →
  (J.stop i H ∧ Q (.ref D) H) ∨ (J.go i H ∧ ∃ Nx : Hp → Prop, (∀ H', Nx H' → ∃ m', m' < m ∧ W (i + 1) m' H') ∧ ∀ x H', J.yld i H x H' → g x (wipe σ vs) H' fun σ2 H2 => wipe σ2 vs = wipe σ vs ∧ tt σ2 H2 fun b H3 =>
    if b = true then tk σ2 H3 fun y H4 => tv σ2 H4 fun z H5 => ∃ kvs k c, y = .ref c ∧ H5 c = some (.tup (k.map kV)) ∧ H5 D = some (.dT kvs) ∧ kvs.length < sizeLine ∧ Nx (upd H5 D (.dT (putK kvs k z))) else Nx H3)
theorem core {pins : List (Addr × Obj)} {s : Shared} {σ : L2.St} {H : Hp} {Q : VK} {kx vx tg iter : Expr} {ifs : List Expr} {scope : Scope} {own : List (Str × Nat)} {pos pos' : Pos} {wi : TI} {g : TG} {tt : TT} {tk tv : TE} {use : Option (Value → Sem Unit)} {Qf : Value → Shared → Prop}
    (hu : X.A.units + 1 < cLine) (hc : X.calm = true) (hN : X.N.Nodup) (I : Inv X pins σ H s) (hi : PI X tg iter wi) (ok : BlkOk X.N X.env.scope scope own)
    (hg : ∀ s H C cl fp, PG (X.blk s H scope (compEnvC scope cl C X.env) fp) tg g) (ht : ∀ s H C cl fp, PTs (X.blk s H scope (compEnvC scope cl C X.env) fp) ifs tt)
    (hk : ∀ s H C cl fp, PE (X.blk s H scope (compEnvC scope cl C X.env) fp) kx tk) (he : ∀ s H C cl fp, PE (X.blk s H scope (compEnvC scope cl C X.env) fp) vx tv) (hs : ∀ x, foldedSetIterable iter X.env x = pure x)
    (h : tD wi g tt tk tv (own.map (·.2)) σ H Q)
    (end_ : ∀ D C s' m H', Inv X pins σ H' s' → Q (.ref D) H' → s'.heap.Ns C m → FpOk X pins H' C → compPost (model X.prog X.w) X.A X.xe use Qf (.ref D) C (.ok .next) s') :
    wpAny (model X.prog X.w) X.A (comprehension (.DictComp kx vx [⟨tg, iter, ifs, 0⟩] scope pos) scope X.env pos' newDict false (eval iter X.env) use) Qf X.xe s := by
  have clos : ∀ y ∈ scope.names, y.2 = .free → ∃ c, X.env.cells.lookup y.1 = some c := fun y hy e =>
    (ok.free y hy e).elim (fun k => I.ok.has _ (.inl k)) fun k => I.ok.has _ (.inr k)
  refine wpAny_comprehension_free (use := use) rfl hs (closure_ok clos) ok.kind (fun y hy e => by rw [ok.uniq y hy, e]) (thn (hi.run pins s σ H _ I h) fun xv s1 hx => thn hx fun itv s2 h2 => ?_)
  obtain ⟨it, fp, tn, J, H2, e, I2, T, st2, f2, q⟩ := h2
  subst e
  refine wpAny_newObj_type (newEnv_comp ?_)
  obtain ⟨W, ⟨m0, w0⟩, turn⟩ := q s2.heap.objs.size (I2.hok.fresh (Nat.le_refl _))
  generalize hH3 : upd H2 s2.heap.objs.size (.dT []) = H3 at w0
  have push : ∀ b o, s2.heap.get? b = some o → (s2.heap.push { cls := .type "dict", data := .dict #[] }).get? b = some o := fun b o e => Heap.get?_push_of_some _ e
  have I3 : Inv X pins σ H3 ({ s2 with heap := s2.heap.push { cls := .type "dict", data := .dict #[] } } : Shared) := by
    rw [← hH3]
    exact I2.laid (t' := s2.toks) push (Nat.le_refl _) (dt_empty s2.heap I2.big)
  have f3 : ∀ b ∈ fp, FpOk X pins H3 b ∧ b < (s2.heap.push ({ cls := .type "dict", data := .dict #[] } : Obj)).objs.size := fun b hb => by
    obtain ⟨o, e, _⟩ := T.obj _ _ st2 b hb
    have lt : b < s2.heap.objs.size := Heap.lt_size e
    refine ⟨⟨?_, (f2 b hb).2⟩, by rw [Heap.size_push]; exact Nat.lt_succ_of_lt lt⟩
    rw [← hH3, upd_ne (Nat.ne_of_lt lt)]
    exact (f2 b hb).1
  generalize hs3 : ({ s2 with heap := s2.heap.push { cls := .type "dict", data := .dict #[] } } : Shared) = s3 at I3
  have h3 : s3.heap = s2.heap.push { cls := .type "dict", data := .dict #[] } := by rw [← hs3]
  rw [← h3] at f3
  have st3 : tn 0 s3.heap := T.keep _ _ _ st2 fun b _ o e => by rw [h3]; exact push b o e
  have I4 := block_start I3 ok hN f3
  generalize hcl : cellsFrom (s3.heap.objs.size + 1) scope.names (cloFrom X.env.cells scope.names []) = cl at I4
  have pg := hg s3 H3 s3.heap.objs.size cl fp
  have pt := ht s3 H3 s3.heap.objs.size cl fp
  have pk := hk s3 H3 s3.heap.objs.size cl fp
  have pe := he s3 H3 s3.heap.objs.size cl fp
  show codeAny _ _ (.compStart (.DictComp kx vx [⟨tg, iter, ifs, 0⟩] scope pos) 0 (.ref it) (.ref s2.heap.objs.size) (compEnvC scope cl s3.heap.objs.size X.env)) (compPost (model X.prog X.w) X.A X.xe use Qf (.ref s2.heap.objs.size) s3.heap.objs.size) { s3 with heap := pushCells (s3.heap.push { cls := .type "dict", data := .dict #[] }) scope.names }
  generalize hD : s2.heap.objs.size = D at turn
  generalize hce : compEnvC scope cl s3.heap.objs.size X.env = ce at I4 pg pt pk pe ⊢
  have lo : ce.locals = s3.heap.objs.size := by rw [← hce]; rfl
  generalize hs4 : ({ s3 with heap := pushCells (s3.heap.push { cls := .type "dict", data := .dict #[] }) scope.names } : Shared) = s4 at I4 ⊢
  have st4 : tn 0 s4.heap := T.keep _ _ _ st3 fun b _ o e => by rw [← hs4]; exact pushCells_keeps _ _ _ _ (Heap.get?_push_of_some _ e)
  have fpo : ∀ {σ' : L2.St} {H' : Hp} {s' : Shared}, Inv (X.blk s3 H3 scope ce fp) [] σ' H' s' → (∀ b ∈ fp, H' b = none) → ∀ b ∈ fp, FpOk (X.blk s3 H3 scope ce fp) [] H' b := fun {σ' H' s'} I' hn b hb =>
    ⟨hn b hb, (I'.ok.exf b hb).1, I'.ok.exfs b hb, .inl hb, fun x c e => (I'.ok.exf b hb).2 x c e, fun p hp => absurd (show p ∈ ([] : List (Addr × Obj)) ++ [] from hp) (by simp)⟩
  refine codeAny_compStart_dict ?_ (T.self X.A 0 _ _ _ st4 ?_)
  all_goals
    refine compLoop_anyD (fun n s' => ∃ i H', Inv (X.blk s3 H3 scope ce fp) [] (wipe σ (own.map (·.2))) H' s' ∧ tn i s'.heap ∧ (∀ b ∈ fp, H' b = none) ∧ W i n H') ?_ m0 ⟨0, H3, I4, st4, fun b hb => (f3 b hb).1.1, w0⟩
    rintro n s5 ⟨i, H5, I5, st5, n5, w5⟩
    rcases turn i n H5 w5 with ⟨stop, qq⟩ | ⟨go, Nx, more, step⟩
    · refine thnF (T.done (X.blk s3 H3 scope ce fp) rfl rfl rfl hc i [] s5 _ H5 (fun _ _ => False) I5 (fpo I5 n5) st5 stop) fun r s6 ⟨hr, I6⟩ => ?_
      subst hr
      have I7 : Inv X pins σ H5 s6 := I3.call' (ch := fp) I6.os I6.base I6.hok I6.bare fun b hb => ⟨(f3 b hb).1.2.2.2.1, (f3 b hb).1.2.1, (f3 b hb).1.2.2.2.2.1, (f3 b hb).1.2.2.2.2.2⟩
      obtain ⟨m, hn, _⟩ := I6.loc
      have hn : s6.heap.Ns ce.locals m := hn
      have nC : H5 ce.locals = none := I6.free
      rw [lo] at hn nC
      exact end_ D s3.heap.objs.size s6 m H5 I7 qq hn (I3.fpOk (Nat.le_refl _) nC)
    · refine thnF (T.item (X.blk s3 H3 scope ce fp) rfl rfl rfl hc i [] s5 _ H5 (fun _ _ => False) I5 (fpo I5 n5) st5 go) fun r s6 ⟨u, hr, h6⟩ => ?_
      subst hr
      refine thnF h6 fun _ s7 ⟨x, H7, I7, r7, y7, st7, n7⟩ => ?_
      refine thnF (pg.run _ s7 _ H7 x u _ (I7.pinned (fpo I7 n7) (T.obj _ _ st7)) r7 (step x H7 y7)) fun _ s8 ⟨σ8, H8, I8, hw8, q8⟩ => ?_
      refine thnF (pt.run _ s8 σ8 H8 _ I8 q8) fun b s9 ⟨H9, I9, q9⟩ => ?_
      have back : ∀ {s' : Shared} {H' : Hp}, Inv (X.blk s3 H3 scope ce fp) ([] ++ pinsAt fp s7.heap) σ8 H' s' → Nx H' → ∃ m, m < n ∧ ∃ i H', Inv (X.blk s3 H3 scope ce fp) [] (wipe σ (own.map (·.2))) H' s' ∧ tn i s'.heap ∧ (∀ b ∈ fp, H' b = none) ∧ W i m H' := fun {s' H'} I' nx => by
        obtain ⟨m', lt, w'⟩ := more H' nx
        have held : ∀ b ∈ fp, ∀ o, s7.heap.get? b = some o → s'.heap.get? b = some o ∧ H' b = none := fun b hb o e =>
          let z := I'.pin (b, o) (List.mem_append_right _ (List.mem_append_right _ (mem_pinsAt hb e)))
          ⟨z.1, z.2.1⟩
        refine ⟨m', lt, i + 1, H', (I'.unpinned (pins := [])).weak (by rw [← hw8, wipe_length]) (fun j v e => ?_), T.keep _ _ _ st7 fun b hb o e => (held b hb o e).1, fun b hb => ?_, w'⟩
        · rw [← hw8] at e
          exact (wipe_some e).1
        · obtain ⟨o, e, _⟩ := T.obj _ _ st7 b hb
          exact (held b hb o e).2
      cases b with
      | false =>
        simp only [Bool.false_eq_true, if_false] at q9 ⊢
        exact back I9 q9
      | true =>
        simp only [if_true] at q9 ⊢
        refine thnF (pk.run _ s9 σ8 H9 _ I9 q9) fun z s10 ⟨yk, H10, I10, r10, q10⟩ => ?_
        refine thnF (pe.run _ s10 σ8 H10 _ I10 q10) fun z2 s11 ⟨yv, H11, I11, r11, kvs, k, c, ek, hc11, hD11, hz11, nx⟩ => ?_
        subst ek
        obtain rfl : z = Value.ref c := r10
        exact setT (X := X.blk s3 H3 scope ce fp) hu I11 hD11 hz11 hc11 r11 fun s12 I12 => back I12 nx
/-- as a value -/
theorem pe_dcT {kx vx tg iter : Expr} {ifs : List Expr} {scope : Scope} {own : List (Str × Nat)} {pos : Pos} {wi : TI} {g : TG} {tt : TT} {tk tv : TE} (hu : X.A.units + 1 < cLine) (hc : X.calm = true) (hN : X.N.Nodup) (hi : PI X tg iter wi) (ok : BlkOk X.N X.env.scope scope own)
    (hg : ∀ s H C cl fp, PG (X.blk s H scope (compEnvC scope cl C X.env) fp) tg g) (ht : ∀ s H C cl fp, PTs (X.blk s H scope (compEnvC scope cl C X.env) fp) ifs tt)
    (hk : ∀ s H C cl fp, PE (X.blk s H scope (compEnvC scope cl C X.env) fp) kx tk) (he : ∀ s H C cl fp, PE (X.blk s H scope (compEnvC scope cl C X.env) fp) vx tv) (hs : ∀ x, foldedSetIterable iter X.env x = pure x := by intro _; rfl) :
    PE X (.DictComp kx vx [⟨tg, iter, ifs, 0⟩] scope pos) (tD wi g tt tk tv (own.map (·.2))) := by
  refine ⟨fun pins s σ H Q I h => ?_⟩
  rw [arm_eval_DictComp]
  refine core hu hc hN I hi ok hg ht hk he hs h fun D C s' m H' I' q hn f => ⟨m, hn, fun h'' sb => ?_⟩
  obtain ⟨f0, f1, f2, f3, f4, f5⟩ := f
  exact ⟨.ref D, H', I'.turned (t' := s'.toks) (fun b o hb e => (sb.2 b hb).trans e) f0 f1 f3 f4 f5, rfl, q⟩
/-- x = {..} on one line, x a local -/
theorem ps_setDcT {i : Nat} {y : Str} {py : Pos} {kx vx tg iter : Expr} {ifs : List Expr} {scope : Scope} {own : List (Str × Nat)} {pos spos : Pos} {wi : TI} {g : TG} {tt : TT} {tk tv : TE} (hu : X.A.units + 1 < cLine) (hc : X.calm = true) (hN : X.N.Nodup) (hy : X.N[i]? = some y) (hyl : X.env.scope.names.lookup y = some .local)
    (hsw : swapsWith (.DictComp kx vx [⟨tg, iter, ifs, 0⟩] scope pos) (some (.Name y py)) spos.line X.env = pure true) (hi : PI X tg iter wi) (ok : BlkOk X.N X.env.scope scope own)
    (hg : ∀ s H C cl fp, PG (X.blk s H scope (compEnvC scope cl C X.env) fp) tg g) (ht : ∀ s H C cl fp, PTs (X.blk s H scope (compEnvC scope cl C X.env) fp) ifs tt)
    (hk : ∀ s H C cl fp, PE (X.blk s H scope (compEnvC scope cl C X.env) fp) kx tk) (he : ∀ s H C cl fp, PE (X.blk s H scope (compEnvC scope cl C X.env) fp) vx tv) (hs : ∀ x, foldedSetIterable iter X.env x = pure x := by intro _; rfl) :
    PS X (.Assign [.Name y py] (.DictComp kx vx [⟨tg, iter, ifs, 0⟩] scope pos) spos) (tAsg (tD wi g tt tk tv (own.map (·.2))) (gName i)) := by
  refine ⟨fun pins s σ H D I h => ?_⟩
  rw [exec_Assign_Name_used _ _ _ _ hsw]
  refine wpAny_bind (wpAny_standAt (wpAny_bind ?_))
  show wpAny _ X.A (do let _ ← comprehension (.DictComp kx vx [⟨tg, iter, ifs, 0⟩] scope pos) scope X.env (firstIterPos [⟨tg, iter, ifs, 0⟩] pos) newDict false (eval iter X.env) (some (assign (.Name y py) X.env))) _ _ s
  have h : tD wi g tt tk tv (own.map (·.2)) σ H (fun x H1 => gName i x σ H1 D.nx) := h
  refine wpAny_bind (thn (core (Qf := fun _ s' => SP X pins D .next s') hu hc hN I hi ok hg ht hk he hs h fun L C s' m H' I' q hn f => ?_) fun _ s' hq => wpAny_pure (wpAny_pure hq))
  show wpAny _ _ (assign (.Name y py) X.env (.ref L)) _ _ _
  refine wpAny_assign_Name (store_ok2 (v := V.ref L) I' hN hy (.inl hyl) rfl (fun s2 I2 ⟨a, sb, ha⟩ => ?_) (.inr hyl))
  obtain ⟨f0, f1, f2, f3, f4, f5⟩ := f
  refine ⟨m, hn.sameBut sb (fun e => ha.elim (fun z => f1 (e.trans z)) fun z => f4 y a z e.symm), fun h3 sb3 => ?_⟩
  exact ⟨_, H', I2.turned (t' := s2.toks) (fun b o hb e => (sb3.2 b hb).trans e) f0 f1 f3 f4 f5, q⟩
theorem sw_dict {kx vx : Expr} {gs : List Comprehension} {scope : Scope} {pos py : Pos} {y : Str} {l : Nat} {env : Env} (hk : env.scope.kind = .function) (hy : env.scope.names.lookup y = some .local) (hl : (py.line == pos.line) = true)
    (ha : (scope.names.any fun (n, k) => n == y && (k == .local || k == .cell)) = false) : swapsWith (.DictComp kx vx gs scope pos) (some (.Name y py)) l env = pure true := by
  have ky : env.kindOf y = some .local := hy
  have hb : env.blockKind = .function := by unfold Env.blockKind; rw [hk]; rfl
  unfold swapsWith
  simp only [hb, ky, ha, Expr.pos, hl]
  rfl
/-- over a list that stays -/
theorem dcT_list {K : PySem.W.Frag} {a : Addr} {xs : List V} {g : TG} {tt : TT} {tk tv : TE} {vs : List Nat} {σ : L2.St} {H1 : Hp} {D : Addr} {Qd : Hp → Prop} (Pv : Nat → Hp → Prop) (h0 : Pv 0 (upd H1 D (.dT []))) (hl : ∀ i H, i ≤ xs.length → Pv i H → SqL K H a xs)
    (hs : ∀ i x H, xs[i]? = some x → Pv i H → g x (wipe σ vs) H fun σ2 H2 => wipe σ2 vs = wipe σ vs ∧ tt σ2 H2 fun b H3 =>
      if b = true then tk σ2 H3 fun y H4 => tv σ2 H4 fun z H5 => ∃ kvs k c, y = .ref c ∧ H5 c = some (.tup (k.map kV)) ∧ H5 D = some (.dT kvs) ∧ kvs.length < sizeLine ∧ Pv (i + 1) (upd H5 D (.dT (putK kvs k z))) else Pv (i + 1) H3) (hd : ∀ H, Pv xs.length H → Qd H) :
    ∃ W : Nat → Nat → Hp → Prop, (∃ m, W 0 m (upd H1 D (.dT []))) ∧ ∀ i m H, W i m H →
      ((Itl K a).stop i H ∧ Qd H) ∨ ((Itl K a).go i H ∧ ∃ Nx : Hp → Prop, (∀ H', Nx H' → ∃ m', m' < m ∧ W (i + 1) m' H') ∧ ∀ x H', (Itl K a).yld i H x H' → g x (wipe σ vs) H' fun σ2 H2 => wipe σ2 vs = wipe σ vs ∧ tt σ2 H2 fun b H3 =>
        if b = true then tk σ2 H3 fun y H4 => tv σ2 H4 fun z H5 => ∃ kvs k c, y = .ref c ∧ H5 c = some (.tup (k.map kV)) ∧ H5 D = some (.dT kvs) ∧ kvs.length < sizeLine ∧ Nx (upd H5 D (.dT (putK kvs k z))) else Nx H3) := by
  refine ⟨fun i m H => m = xs.length - i ∧ i ≤ xs.length ∧ Pv i H, ⟨xs.length, by simp, Nat.zero_le _, h0⟩, ?_⟩
  rintro i m H ⟨rfl, hi, p⟩
  have q := hl i H hi p
  rcases Nat.lt_or_ge i xs.length with lt | ge
  · refine .inr ⟨⟨xs, xs[i], q, by simp [lt]⟩, Pv (i + 1), fun H' p' => ⟨xs.length - (i + 1), by omega, rfl, lt, p'⟩, fun x H' y => ?_⟩
    obtain ⟨e, y⟩ := y
    subst e
    exact hs i x _ (y xs q) p
  · obtain rfl : i = xs.length := by omega
    exact .inl ⟨⟨xs, q, Nat.le_refl _⟩, hd H p⟩
end
end DcT
namespace L2
open PySem PySem.Spec PyProof.Rows
/-- a callee that may raise, called where it doesn't -/
theorem passN {X : Cx} {C : CXT} (h : C = L2.CX X.prog X.w) : Passes C X (fun _ _ _ => False) := by
  subst h
  exact passes_call (W := fun _ _ _ _ => False) takes0 (fun _ _ _ _ h => h)
section
variable {X : Cx} {CX : CXT} {k : Nat} {f C : Addr} {fd : FuncData} {ps : List Str} {sp : Sp} {E : St → XK} {x m : Str} {p pos apos : Pos} {e o : Expr} {es : List Expr} {ta : TE} {t : TA}
/-- o.m(e, ..), what it may raise told at the slots -/
def tMethX (C : Addr) (m : Str) (sp : Sp) (E : St → XK) (ta : TE) (t : TA) : TE := fun σ H Q => ta σ H fun x H1 => ∃ a dx fs, x = .ref a ∧ H1 a = some (.ins C dx fs) ∧ fs.lookup m = none ∧ t σ H1 fun vs H2 => sp (.ref a :: vs) H2 Q (E σ)
theorem pe_methX {pl : Sem Bool} (he : PE X o ta) (c : Cls X.K C) (hm : Meth X.K C m f) (F : FnOk X.prog X.w X.K X.mg X.base CX k f fd ps sp) (hr : Room k X.A) (hb : Binds X.K fd ps []) (hx : ∀ σ, PassesAt CX X σ (E σ)) (ha : PA X (e :: es) t)
    (hst : starEach (e :: es) X.env = (false, eval e X.env) :: starEach es X.env := by rfl) (hpl : (backTo pos (starEach es X.env)).any (·.1) = false := by rfl)
    (ht : eval (.Call (.Attribute o m apos) (e :: es) [] pos) X.env = (do
      let ov ← eval o X.env
      standAt apos.atName
      let (f, first) ← holding [ov] (getMethod ov m pl)
      callWith pos f first (backTo pos (starEach (e :: es) X.env)) (backToKw pos (keywordEach [] X.env))) := by rfl) :
    PE X (.Call (.Attribute o m apos) (e :: es) [] pos) (tMethX C m sp E ta t) := by
  refine ⟨fun pins s σ H Q I h => ?_⟩
  refine PySem.W.methodCall_KW (pl := pl) (thn (he.run pins s σ H _ I h) fun u s1 ⟨x, H1, I1, rx, a, dx, fs, ex, ea, l, q⟩ => ?_) ht
  subst ex
  obtain rfl : u = Value.ref a := rx
  refine getmeth_ok I1 ea c hm l ?_
  refine PySem.W.callWith_K (first := [.ref a]) (h₀ := X.base) I.ok.mod.kin hm.kp (thn (ha.run pos pins s1 σ H1 _ I1 q) fun us s2 ⟨vs, H2, I2, r, q2⟩ => ⟨I2.kIn, ?_⟩) hst hpl
  exact run_fnS (us := .ref a :: us) (vs := .ref a :: vs) F hr hb (hx σ) I2 (.cons rfl r) q2
theorem pe_methX0 {pl : Sem Bool} (he : PE X o ta) (c : Cls X.K C) (hm : Meth X.K C m f) (F : FnOk X.prog X.w X.K X.mg X.base CX k f fd ps sp) (hr : Room k X.A) (hb : Binds X.K fd ps []) (hx : ∀ σ, PassesAt CX X σ (E σ))
    (ht : eval (.Call (.Attribute o m apos) [] [] pos) X.env = (do
      let ov ← eval o X.env
      standAt apos.atName
      let (f, first) ← holding [ov] (getMethod ov m pl)
      callWith pos f first (backTo pos (starEach [] X.env)) (backToKw pos (keywordEach [] X.env))) := by rfl) :
    PE X (.Call (.Attribute o m apos) [] [] pos) (tMethX C m sp E ta tNil) := by
  refine ⟨fun pins s σ H Q I h => ?_⟩
  refine PySem.W.methodCall_KW (pl := pl) (thn (he.run pins s σ H _ I h) fun u s1 ⟨x, H1, I1, rx, a, dx, fs, ex, ea, l, q⟩ => ?_) ht
  subst ex
  obtain rfl : u = Value.ref a := rx
  refine getmeth_ok I1 ea c hm l ?_
  exact PySem.W.callWith_K0 (first := [.ref a]) I1.kIn hm.kp (run_fnS (us := [.ref a]) (vs := [.ref a]) F hr hb (hx σ) I1 (.cons rfl .nil) q)
/-- C(e, ..), what its __init__ may raise told at the slots -/
def tMakeX (C : Addr) (sp : Sp) (E : St → XK) (t : TA) : TE := fun σ H Q => t σ H fun vs H1 => ∀ x dx, H1 x = none → H1 dx = none → dx ≠ x →
  sp (.ref x :: vs) (upd (upd H1 dx (.own x)) x (.ins C dx [])) (fun v H2 => v = .non ∧ Q (.ref x) H2) (E σ)
theorem pe_makeX (M : Mk X.K C f) (F : FnOk X.prog X.w X.K X.mg X.base CX k f fd ps sp) (hr : Room (k + 1) X.A) (hg : Gl X x) (hm : X.mg x = some (.ref C)) (hb : Binds X.K fd ps []) (hx : ∀ σ, PassesAt CX X σ (E σ))
    (ha : PA X (e :: es) t) (hdb : (x == ("__debug__" : Str)) = false := by decide) (he : starEach (e :: es) X.env = (false, eval e X.env) :: starEach es X.env := by rfl) (hpl : (backTo pos (starEach es X.env)).any (·.1) = false := by rfl) :
    PE X (.Call (.Name x p) (e :: es) [] pos) (tMakeX C sp E t) := by
  refine ⟨fun pins s σ H Q I h => ?_⟩
  refine wpAny_Call_Name_kw (ld_glob I hg hm ?_ hdb)
  refine PySem.W.callWith_K (h₀ := X.base) I.ok.mod.kin M.kp (thn (ha.run pos pins s σ H _ I h) fun us s1 ⟨vs, H1, I1, r, q⟩ => ⟨I1.kIn, ?_⟩) he hpl
  have hq := q (s1.heap.objs.size + 1) s1.heap.objs.size (I1.hok.fresh (Nat.le_succ _)) (I1.hok.fresh (Nat.le_refl _)) (Nat.ne_of_lt (Nat.lt_succ_self _))
  have I2 := Inv.made (C := C) I1
  have r2 : Vals (V.ref (s1.heap.objs.size + 1) :: vs) (Value.ref (s1.heap.objs.size + 1) :: us) := .cons rfl r
  have hl : (Value.ref (s1.heap.objs.size + 1) :: us).length = ps.length := by
    have e := r2.length
    rw [F.len _ _ _ _ hq] at e
    exact e.symm
  have b := hb _ (Value.ref (s1.heap.objs.size + 1) :: us) I2.kIn (by rw [List.append_nil]; exact hl)
  rw [List.append_nil] at b
  refine wpAny_call (make_map (f := f) I1.kIn M.makes M.init (beq_iff_eq.mp M.fn) (codeAny_mono (F.run _ X.stack _ _ ⟨Value.ref (s1.heap.objs.size + 1) :: us, []⟩ (Value.ref (s1.heap.objs.size + 1) :: us) _ _ (E σ) (hr.make C us [])
    (I2.env0.make C us []) b r2 hq) fun r s' hq' => ?_))
  cases r with
  | error e => exact hx σ pins _ _ e s' I2 hq'
  | ok fl =>
    cases fl with
    | ret u =>
      obtain ⟨v, H', I3, rv, ev, q3⟩ := I2.after hq'
      subst ev
      exact ⟨rv, ⟨V.ref (s1.heap.objs.size + 1), H', I3, rfl, q3⟩⟩
    | next => exact False.elim hq'
    | brk => exact False.elim hq'
    | cont => exact False.elim hq'
end
/-- isinstance(e, c), e the exception that the suite holds, with a dict of its own -/
theorem call_isX {X : Cx} {a D : Addr} {cls : Value} {oe : Obj} {d : Option Addr} {pn : List (Addr × Obj)} (C : ExcC X.K D) (hz : Zc cls d oe) (hf : ∃ vs, oe.data = .fields vs) :
    CallR (X.suite a ((a, oe) :: pn)) (.builtin "isinstance") (fun xs H Q => ∃ (dd : Addr) (fs : List (Str × V)) (c : V) (cv : Value) (b : Bool), cls = .ref D ∧ d = some dd ∧ H dd = some (.xd fs) ∧ xs = [.ref a, c] ∧ (∀ u, RelV c u → u = cv) ∧ PySem.W.kitOne X.K (.ref D) cv = some b ∧ Q (.bl b) H) := by
  intro pins s σ H xs us Q I r h
  obtain ⟨dd, fs, c, cv, b, rfl, rfl, ed, rfl, hcv, e, q⟩ := h
  cases r with
  | cons rx rr =>
    cases rr with
    | cons rt rr =>
      cases rr
      cases rx
      have ec := hcv _ rt
      subst ec
      obtain ⟨hget, _⟩ := I.pin (a, oe) (List.mem_append.mpr (.inl List.mem_cons_self))
      obtain ⟨vs, hv⟩ := hf
      have hx : ObjOk X.prog X.w H s.heap dd (.xd fs) := I.hok dd _ ed
      obtain ⟨mA, hns, hr⟩ := hx
      obtain ⟨od, ho, hl⟩ := lookIn_ns hns
      have J : PySem.W.InstAt s.heap a oe D (some od) := ⟨hget, hz.1, by unfold PySem.W.notCls; rw [hv] <;> rfl, by rw [hz.2]; exact ho⟩
      have hcl : (PySem.W.clsIn X.K D).isSome = true := by
        obtain ⟨cdD, hcD, _⟩ := PySem.W.any_some C.hd
        rw [hcD]
        rfl
      exact PySem.W.kia_one (PySem.W.kitx_exc hcl C.hg C.hk C.hs C.ha C.hn C.ht C.hm) I.kIn J e (fun z => nomatch z) fun tk => ⟨.bl b, H, I.kept (t' := tk) fun _ _ z => z, rfl, q⟩
/-! ### two dicts that hold the same, things at addresses too -/
def sameB : V → Bool
  | .ref _ => true
  | v => flatB v
theorem eqAt_sameB {A : Around} {s : Shared} {v : V} {u u' : Value} (r : RelV v u) (r' : RelV v u') (f : sameB v = true) : SeqAt.EqAt A s u u' true := by
  cases v with
  | ref a =>
    cases (show u = Value.ref a from r)
    cases (show u' = Value.ref a from r')
    exact SeqAt.EqAt.same _
  | non => exact eqAt_same r r' f
  | bl b => exact eqAt_same r r' f
  | int i => exact eqAt_same r r' f
  | str x => exact eqAt_same r r' f
  | byt b => exact eqAt_same r r' f
  | flt x => exact eqAt_same r r' f
  | ty n => exact eqAt_same r r' f
theorem hits_allS {κ : Type} [DecidableEq κ] {A : Around} {s : Shared} {kvs : List (κ × V)} {vb : List (κ × Value)} (rb : KV kvs vb) {ks : List (κ × V)} {va : List (κ × Value)} (ra : KV ks va) :
    (∀ p ∈ ks, valV kvs p.1 = some p.2 ∧ sameB p.2 = true) → PySem.W.KeqHits A s vb va true := by
  unfold KV at ra
  induction ra with
  | nil => intro _; exact .nil
  | @cons p q ps qs h t ih =>
    intro hp
    obtain ⟨h1, h2⟩ := h
    obtain ⟨e, f⟩ := hp p List.mem_cons_self
    have rr : RelO (some p.2) (valueAt vb p.1) := by rw [← e]; exact rb.val p.1
    obtain ⟨y, hy, ry⟩ := rr.some_of
    obtain ⟨k, v⟩ := q
    have h1' : p.1 = k := h1
    rw [h1'] at hy
    show PySem.W.KeqHits A s vb ((k, v) :: qs) (true && true)
    exact .hit hy (eqAt_sameB h2 ry f) (ih fun p' hm => hp p' (List.mem_cons_of_mem _ hm))
def rNeS : R2 := fun x y H Q => ∃ a b ks ls, x = .ref a ∧ y = .ref b ∧ H a = some (.dK ks) ∧ H b = some (.dK ls) ∧ ks.length = ls.length ∧ (∀ p ∈ ks, valV ls p.1 = some p.2 ∧ sameB p.2 = true) ∧ Q (.bl false) H
theorem op_neS {X : Cx} (hu : X.A.units + 1 < cLine) : OpR X (compareOp .NotEq) rNeS := by
  intro pins s σ H x y v u Q I rx ry h
  obtain ⟨a, b, ks, ls, rfl, rfl, ea, eb, hlen, hp, q⟩ := h
  obtain rfl : v = Value.ref a := rx
  obtain rfl : u = Value.ref b := ry
  obtain ⟨_, ya, va, ra, da⟩ := (show ObjOk X.prog X.w H s.heap a (.dK ks) from I.hok a _ ea)
  obtain ⟨_, yb, vb, rb, db⟩ := (show ObjOk X.prog X.w H s.heap b (.dK ls) from I.hok b _ eb)
  have hl : va.length = vb.length := by rw [← ra.length, ← rb.length]; exact hlen
  exact PySem.W.keq_ne (knd := mixKind X.prog X.w) (r := true) ya yb da db (by omega) (fun _ => hits_allS rb ra hp) (fin_bl I q (by simp [hl]))
def rEqS : R2 := fun x y H Q => ∃ a b ks ls, x = .ref a ∧ y = .ref b ∧ H a = some (.dK ks) ∧ H b = some (.dK ls) ∧ ks.length = ls.length ∧ (∀ p ∈ ks, valV ls p.1 = some p.2 ∧ sameB p.2 = true) ∧ Q (.bl true) H
theorem op_eqSX {X : Cx} (hu : X.A.units + 1 < cLine) : OpR X (compareOp .Eq) rEqS := by
  intro pins s σ H x y v u Q I rx ry h
  obtain ⟨a, b, ks, ls, rfl, rfl, ea, eb, hlen, hp, q⟩ := h
  obtain rfl : v = Value.ref a := rx
  obtain rfl : u = Value.ref b := ry
  obtain ⟨_, ya, va, ra, da⟩ := (show ObjOk X.prog X.w H s.heap a (.dK ks) from I.hok a _ ea)
  obtain ⟨_, yb, vb, rb, db⟩ := (show ObjOk X.prog X.w H s.heap b (.dK ls) from I.hok b _ eb)
  have hl : va.length = vb.length := by rw [← ra.length, ← rb.length]; exact hlen
  exact PySem.W.keq_eq (knd := mixKind X.prog X.w) (r := true) ya yb da db (by omega) (fun _ => hits_allS rb ra hp) (fin_bl I q (by simp [hl]))
theorem kit_self {K : PySem.W.Frag} (x : Addr) : PySem.W.kitOne K (.ref x) (.ref x) = some true := by
  show (if (Value.ref x == Value.ref x) = true then some true else _) = some true
  rw [if_pos (by simp)]
theorem kit_ref {K : PySem.W.Frag} {x y : Addr} (hdct : PySem.W.hasDictIn K y = true) (ht : PySem.W.typeIn K (.ref y) = some (.type "type")) (h4 : PySem.W.subIn K (.ref x) (.ref y) = some true) : PySem.W.kitOne K (.ref x) (.ref y) = some true := by
  obtain ⟨cd, hc, _⟩ := PySem.W.any_some hdct
  have e2 : ((PySem.W.clsIn K y).isSome && PySem.W.typeIn K (.ref y) == some (.type "type")) = true := by rw [hc, ht] <;> rfl
  show (if (Value.ref x == Value.ref y) = true then some true else if ((PySem.W.clsIn K y).isSome && PySem.W.typeIn K (.ref y) == some (.type "type")) = true then PySem.W.subIn K (.ref x) (.ref y) else none) = some true
  rw [if_pos e2, h4]
  split <;> rfl
/-! ### two dicts compared whose values are data: True or False -/
def eqT (D : V → PyData) (ks ls : List (Key × V)) : Bool := (ks.length == ls.length) && ks.all fun p => match valV ls p.1 with
  | none => false
  | some v => PyData.eqv (D p.2) (D v)
theorem hits_data {X : Cx} {pins : List (Addr × Obj)} {σ : St} {H : Hp} {s : Shared} {A : Around} (I : Inv X pins σ H s) (hu : A.units + 65 < cLine) (D : V → PyData) {ls : List (Key × V)} {vb : List (Key × Value)} (rb : KV ls vb) (hb : ∀ p ∈ ls, Dp X.K H p.2 (D p.2) ∧ SeqAt.shaped (D p.2) = true) {ks : List (Key × V)} {va : List (Key × Value)} (ra : KV ks va) :
    (∀ p ∈ ks, Dp X.K H p.2 (D p.2) ∧ SeqAt.shaped (D p.2) = true) → PySem.W.KeqHits A.in1 s vb va (ks.all fun p => match valV ls p.1 with
      | none => false
      | some v => PyData.eqv (D p.2) (D v)) := by
  unfold KV at ra
  induction ra with
  | nil => intro _; exact .nil
  | @cons p q ps qs h t ih =>
    intro hp
    obtain ⟨h1, h2⟩ := h
    obtain ⟨k, v⟩ := q
    have h1' : p.1 = k := h1
    have rr := rb.val p.1
    have ih' := ih fun p' hm => hp p' (List.mem_cons_of_mem _ hm)
    rw [List.all_cons]
    cases e : valV ls p.1 with
    | none =>
      rw [e] at rr
      have hn : valueAt vb p.1 = none := by
        cases e2 : valueAt vb p.1 with
        | none => rfl
        | some _ => rw [e2] at rr; exact (show False from rr).elim
      rw [h1'] at hn
      exact .miss hn
    | some y =>
      rw [e] at rr
      obtain ⟨u, hy, ry⟩ := rr.some_of
      rw [h1'] at hy
      have hy2 : ∃ q ∈ ls, q.2 = y := by
        unfold valV at e
        cases e3 : ls.find? fun kv => decide (kv.1 = p.1) with
        | none => rw [e3] at e; cases e
        | some q => rw [e3] at e; exact ⟨q, List.mem_of_find?_eq_some e3, Option.some.inj e⟩
      obtain ⟨q, hq, rfl⟩ := hy2
      obtain ⟨as, r1⟩ := Dp.reads I _ _ _ (hp p List.mem_cons_self).1 h2
      obtain ⟨bs, r2⟩ := Dp.reads I _ _ _ (hb q hq).1 ry
      exact .hit hy (PySem.W.keq_at r1 r2 (hp p List.mem_cons_self).2 (hb q hq).2 (by show A.units + 1 + 64 < cLine; omega)) ih'
def rEqT (K : PySem.W.Frag) (neg : Bool) : R2 := fun x y H Q => ∃ (a b : Addr) (ks ls : List (Key × V)) (D : V → PyData), x = .ref a ∧ y = .ref b ∧ H a = some (.dK ks) ∧ H b = some (.dK ls) ∧ (∀ p ∈ ks, Dp K H p.2 (D p.2) ∧ SeqAt.shaped (D p.2) = true) ∧ (∀ p ∈ ls, Dp K H p.2 (D p.2) ∧ SeqAt.shaped (D p.2) = true) ∧ Q (.bl (if neg then !eqT D ks ls else eqT D ks ls)) H
theorem op_eqT {X : Cx} (hu : X.A.units + 65 < cLine) : OpR X (compareOp .Eq) (rEqT X.K false) := by
  intro pins s σ H x y v u Q I rx ry h
  obtain ⟨a, b, ks, ls, D, rfl, rfl, ea, eb, ha, hb, q⟩ := h
  obtain rfl : v = Value.ref a := rx
  obtain rfl : u = Value.ref b := ry
  obtain ⟨_, ya, va, ra, da⟩ := (show ObjOk X.prog X.w H s.heap a (.dK ks) from I.hok a _ ea)
  obtain ⟨_, yb, vb, rb, db⟩ := (show ObjOk X.prog X.w H s.heap b (.dK ls) from I.hok b _ eb)
  refine PySem.W.keq_eq (knd := mixKind X.prog X.w) ya yb da db (by omega) (fun _ => hits_data I hu D rb hb ra ha) (fin_bl I q ?_)
  unfold eqT
  rw [ra.length, rb.length]
  rfl
theorem op_neT {X : Cx} (hu : X.A.units + 65 < cLine) : OpR X (compareOp .NotEq) (rEqT X.K true) := by
  intro pins s σ H x y v u Q I rx ry h
  obtain ⟨a, b, ks, ls, D, rfl, rfl, ea, eb, ha, hb, q⟩ := h
  obtain rfl : v = Value.ref a := rx
  obtain rfl : u = Value.ref b := ry
  obtain ⟨_, ya, va, ra, da⟩ := (show ObjOk X.prog X.w H s.heap a (.dK ks) from I.hok a _ ea)
  obtain ⟨_, yb, vb, rb, db⟩ := (show ObjOk X.prog X.w H s.heap b (.dK ls) from I.hok b _ eb)
  refine PySem.W.keq_ne (knd := mixKind X.prog X.w) ya yb da db (by omega) (fun _ => hits_data I hu D rb hb ra ha) (fin_bl I q ?_)
  unfold eqT
  rw [ra.length, rb.length]
  rfl
/-! ### == of two objects of an own class by the class's own def, whatever it tells -/
def rEqO (C : Addr) (sp : Sp) (E : XK) : R2 := fun x y H Q => ∃ (a b dx dy : Addr) (fs gs : List (Str × V)), x = .ref a ∧ y = .ref b ∧ H a = some (.ins C dx fs) ∧ H b = some (.ins C dy gs) ∧ sp [.ref a, .ref b] H (fun v H' => ∃ c, v = .bl c ∧ Q (.bl c) H') E
theorem op_eqO {X : Cx} {CX : CXT} {n : Nat} {C f : Addr} {fd : FuncData} {ps : List Str} {sp : Sp} {E : XK} (F : FnOk X.prog X.w X.K X.mg X.base CX n f fd ps sp) (hrm : Room n X.A)
    (hs : PySem.W.findIn X.K (.ref C) "__eq__" = some (some (.ref f))) (hf : PySem.W.isFn X.K (.ref f) = true) (hb : Binds X.K fd ps []) (hx : Passes CX X E) : OpR X (compareOp .Eq) (rEqO C sp E) := by
  intro pins s σ H x y v u Q I rx ry h
  obtain ⟨a, b, dx, dy, fs, gs, rfl, rfl, ha, hb', hsp⟩ := h
  cases (show v = Value.ref a from rx)
  cases (show u = Value.ref b from ry)
  obtain ⟨mA, J, _⟩ := ins_get I.hok ha
  obtain ⟨mB, J', _⟩ := ins_get I.hok hb'
  obtain ⟨od, J, _⟩ := J.look
  obtain ⟨od', J', _⟩ := J'.look
  obtain ⟨m, hF⟩ := I.fr
  refine PySem.W.cmp_K (op := .Eq) (tb := .ref C) hrm.units0 hF I.ok.mod.kin J J'.type (by simp [PySem.W.notFirst]) hs hf ?_
  refine wpAny_mono (run_fn (us := [.ref a, .ref b]) (vs := [.ref a, .ref b]) (dvs := []) (ds := []) F hrm hb .nil hx I (.cons rfl (.cons rfl .nil)) hsp) (fun r s' q => ?_) fun _ _ z => z
  obtain ⟨w, H', I', rw', c, ew, q⟩ := q
  subst ew
  cases rw'
  exact ⟨.bl c, H', I', rfl, q⟩
end L2
namespace LR
open PySem PySem.Spec PyProof.Rows L2 RT
section
variable {prog : Program} {w : World} {A : Around} {s : Shared} {R : Result → Shared → Prop}
theorem extend_rev {it l : Addr} {items : Array Value} (hh : A.handled = none) (hit : s.heap.IsRevIter it l ((items.size : Int) - 1)) (hl : s.heap.IsList l items) (hne : l ≠ it) (S : Addr) (hSi : S ≠ it) (hSl : S ≠ l) (res : Value) (c₀ : Nat)
    (hS : s.heap.get? S = some { cls := .type "list", data := .seq #[] c₀ }) (hn : items.size ≤ sizeLine)
    (hR : ∀ s' acc' c', Moved (S :: [it]) (fun a b => b = a) s s' → s'.heap.get? S = some { cls := .type "list", dict := none, data := .seq acc' c', slots := #[] } → ItemsOf (fun i v => items[items.size - 1 - i]? = some v) acc' items.size → R (.ok (.ret res)) s') :
    wpAny (model prog w) A.in1 (Builtin.List.listExtendWith (.ref S) (.ref it) res)
      (fun fin s' => match fin with | .done f => R (.ok f) s' | .again c' => c'.quiet = true ∧ codeAny (model prog w) A c' R s') (fun e s' => R (.error e) s') s := by
  have W := (Walks.listRev (prog := prog) (w := w) (A := A.in1) hh it l hne items).toS
  have hSf : S ∉ [it, l] := by simp only [List.mem_cons, List.not_mem_nil, or_false, not_or]; exact ⟨hSi, hSl⟩
  have hT : s.TypeIs (.ref it) "list_reverseiterator" := hit.typeIs
  have h1 : Builtin.List.listSameRef (.ref S) (.ref it) = false := by simp [Builtin.List.listSameRef, hSi]
  unfold Builtin.List.listExtendWith
  refine wpAny_bind (wpAny_typeOf hT ?_)
  rw [if_neg (by rw [h1]; decide)]
  refine wpAny_bind (wpAny_pyIter_revIter hit ?_)
  refine wpAny_bind (wpAny_holding ?_)
  unfold Builtin.List.listLengthHint
  refine wpAny_bind (wpAny_specialOf hT nolen_lri ?_)
  show wpAny _ A.in1 (specialOf (Value.ref it) (Str.ofString "__length_hint__") >>= _) _ _ _
  refine wpAny_bind (wpAny_specialOf hT hint_lri ?_)
  generalize hid : ("list_reverseiterator.__length_hint__" : String) = id0
  wp_delta
  rw [show splitId id0 = some ("list_reverseiterator", "__length_hint__") from by subst hid; decide +kernel]
  subst hid
  refine wpAny_bind (wpAny_isInstance (b := true) hT (by rw [isSubtype_type]; kernel_rfl) ?_)
  refine wpAny_pure ?_
  rw [if_neg (by decide)]
  have e0 : ((items.size : Nat) : Int) - 1 - ((0 : Nat) : Int) = (items.size : Int) - 1 := by omega
  refine wpAny_pure ⟨plainId_quiet F.plain_extend_loop _, codeAny_extend_loopS W hn _ hSf _ items.size 0 _ _ _ rfl (Nat.zero_le _) ⟨Nat.zero_le _, by rw [e0]; exact hit, hl⟩ hS (ItemsOf.nil _) fun s' acc' c' hm hS' hacc => ?_⟩
  exact hR s' acc' c' hm hS' hacc
theorem list_init_rev {it l : Addr} {items : Array Value} (hh : A.handled = none) (hit : s.heap.IsRevIter it l ((items.size : Int) - 1)) (hl : s.heap.IsList l items) (hne : l ≠ it) (S : Addr) (hSi : S ≠ it) (hSl : S ≠ l)
    (hS : s.heap.get? S = some { cls := .type "list", data := .seq #[] }) (hn : items.size ≤ sizeLine)
    (hR : ∀ s' acc' c', Moved (S :: [it]) (fun a b => b = a) s s' → s'.heap.get? S = some { cls := .type "list", dict := none, data := .seq acc' c', slots := #[] } → ItemsOf (fun i v => items[items.size - 1 - i]? = some v) acc' items.size → R (.ok (.ret .none)) s') :
    wpAny (model prog w) A.in1 (Builtin.«list.__init__» ⟨[.ref S, .ref it], []⟩)
      (fun fin s' => match fin with | .done f => R (.ok f) s' | .again c' => c'.quiet = true ∧ codeAny (model prog w) A c' R s') (fun e s' => R (.error e) s') s := by
  show wpAny _ A.in1 (do let old ← Builtin.List.listItems (.ref S); Builtin.List.listUpdate (.ref S) (fun _ => #[]); letGo old.toList.reverse; Builtin.List.listExtendWith (.ref S) (.ref it) .none) _ _ s
  refine wpAny_bind ?_
  unfold Builtin.List.listItems
  refine wpAny_bind (wpAny_seqItems hS rfl (wpAny_pure ?_))
  show wpAny _ A.in1 (updateSeq S (fun _ => #[]) >>= fun _ => letGo (#[] : Array Value).toList.reverse >>= fun _ => Builtin.List.listExtendWith (.ref S) (.ref it) .none) _ _ s
  refine wpAny_bind (wpAny_updateSeq hS rfl ?_)
  have hS₂ := Heap.get?_update_self (Obj.mapSeq (fun _ => (#[] : Array Value))) hS rfl
  have oth : ∀ b o, b ≠ S → s.heap.get? b = some o → (s.heap.update S (Obj.mapSeq (fun _ => (#[] : Array Value)))).get? b = some o :=
    fun b o hb e => (Heap.get?_update_other _ _ (Ne.symm hb)).trans e
  refine wpAny_bind (wpAny_letGo ?_)
  refine extend_rev (s := { s with heap := s.heap.update S (Obj.mapSeq (fun _ => (#[] : Array Value))) }) hh (hit.at fun o e => oth it o hSi.symm e) (let ⟨o, e, r⟩ := hl; ⟨o, oth l o hSl.symm e, r⟩) hne S hSi hSl .none _ hS₂ hn fun s' acc' c' hm hS' hacc => ?_
  refine hR s' acc' c' (Moved.trans (fun _ _ _ a b => b.trans a) (Moved.then_heap (wr := S :: [it]) (G := fun a b => b = a) (Moved.refl fun _ => rfl) (Nat.le_refl _) fun b o hb e => oth b o (fun h => hb ?_) e) hm) hS' hacc
  rw [h]
  exact List.mem_cons_self
end
section
variable {prog : Program} {w : World} {A : Around} {E : Value → Shared → Prop} {s : Shared}
theorem call_list_rev {it l : Addr} {items : Array Value} {Q : Value → Shared → Prop} (hh : A.handled = none) (hit : s.heap.IsRevIter it l ((items.size : Int) - 1)) (hl : s.heap.IsList l items) (hne : l ≠ it) (hn : items.size ≤ sizeLine)
    (hQ : ∀ (h' : Heap) (tk : Nat) (acc : Array Value) (c' : Nat), (∀ b o, b ≠ it → s.heap.get? b = some o → h'.get? b = some o) → h'.get? s.heap.objs.size = some { cls := .type "list", dict := none, data := .seq acc c', slots := #[] } →
      ItemsOf (fun i v => items[items.size - 1 - i]? = some v) acc items.size → Q (.ref s.heap.objs.size) { s with heap := h', toks := tk }) :
    wpAny (model prog w) A (call (.type "list") [.ref it]) Q E s := by
  obtain ⟨oi, hoi, _⟩ := id hit
  obtain ⟨ol, hol, _⟩ := id hl
  have hSi : s.heap.objs.size ≠ it := Nat.ne_of_gt (Heap.lt_size hoi)
  have hSl : s.heap.objs.size ≠ l := Nat.ne_of_gt (Heap.lt_size hol)
  refine callType_codes (Q₁ := fun obj s₁ => obj = .ref s.heap.objs.size ∧ s₁ = { s with heap := s.heap.push { cls := .type "list", data := .seq #[] } }) F.called_list (F.typeCall_list_1 _) F.entry_list_init
    (code_list_new _ ⟨rfl, rfl⟩) fun obj s₁ h₁ => ?_
  obtain ⟨rfl, rfl⟩ := h₁
  have hS : (s.heap.push { cls := .type "list", data := .seq #[] }).get? s.heap.objs.size = some { cls := .type "list", data := .seq #[] } := Heap.get?_push_size _ rfl
  refine ⟨⟨_, hS, rfl⟩, F.args_list_init_2 _ _, list_init_rev (s := { s with heap := s.heap.push { cls := .type "list", data := .seq #[] } }) (A := A.in1) hh (hit.at fun o e => Heap.get?_push_of_some _ e) (hl.push _) hne _ hSi hSl hS hn fun s' acc' c' hm hS' hacc => ?_⟩
  refine ⟨rfl, ?_⟩
  rw [Moved.eq_with hm]
  refine hQ s'.heap s'.toks acc' c' (fun b o hb e => hm.heap b o (fun hmem => ?_) (Heap.get?_push_of_some _ e)) hS' hacc
  rcases List.mem_cons.mp hmem with e' | hmem
  · exact absurd (Heap.lt_size e) (by rw [e']; exact Nat.lt_irrefl _)
  · exact hb (List.mem_singleton.mp hmem)
end
/-- list(reversed(x)), x a list: a new list -/
def tListRev (K : PySem.W.Frag) (te : TE) : TE := fun σ H Q => te σ H fun v H1 => ∃ (a : Addr) (xs : List V), v = .ref a ∧ SqL K H1 a xs ∧ ∀ q, H1 q = none → Q (.ref q) (upd H1 q (.lst xs.reverse))
section
variable {X : Cx}
theorem pe_listRev {e : Expr} {te : TE} {p p2 pos pos2 : Pos} (hc : X.calm = true) (hg : Gl X "list") (hm : X.mg "list" = none) (hg2 : Gl X "reversed") (hm2 : X.mg "reversed" = none) (he : PE X e te)
    (hs : starEach [e] X.env = (false, eval e X.env) :: starEach [] X.env := by rfl)
    (hs2 : starEach [.Call (.Name "reversed" p2) [e] [] pos2] X.env = (false, eval (.Call (.Name "reversed" p2) [e] [] pos2) X.env) :: starEach [] X.env := by rfl) :
    PE X (.Call (.Name "list" p) [.Call (.Name "reversed" p2) [e] [] pos2] [] pos) (tListRev X.K te) := by
  refine ⟨fun pins s σ H Q I h => ?_⟩
  refine Call_ (ld_blt I hg hm boot_list (PyProof.Rows.callWith_type1 (args_cons (Call_ (ld_blt I hg2 hm2 PyProof.Rows.boot_reversed (PyProof.Rows.callWith_type1 (args_cons (thn (he.run pins s σ H _ I h) fun u s1 ⟨v, H1, I1, r1, q1⟩ => args_nil ?_) hs) hs rfl))) hs2) hs2 rfl))
  obtain ⟨a, xs, ev, hq, q⟩ := q1
  subst ev
  obtain rfl : u = Value.ref a := r1
  obtain ⟨its, rv, p', hz⟩ := I1.list hq
  refine call_reversed_list p'.isList (args_nil ?_)
  have k0 : ∀ b o, s1.heap.get? b = some o → (s1.heap.push (revObj a ((its.toArray.size : Int) - 1))).get? b = some o := fun b o e => Heap.get?_push_of_some _ e
  have I2 : Inv X pins σ H1 { s1 with heap := s1.heap.push (revObj a ((its.toArray.size : Int) - 1)) } := I1.kept (t' := s1.toks) k0
  obtain ⟨f0, f1, f2, f3, f4, f5⟩ := I1.fpOk (H' := H1) (b := s1.heap.objs.size) (Nat.le_refl _) (I1.hok.fresh (Nat.le_refl _))
  have hl := p'.isList
  obtain ⟨ol, hol, _⟩ := id hl
  have hne : a ≠ s1.heap.objs.size := Nat.ne_of_lt (Heap.lt_size hol)
  have hn : its.toArray.size ≤ sizeLine := by rw [List.size_toArray, ← rv.length]; exact hz
  refine call_list_rev (s := { s1 with heap := s1.heap.push (revObj a ((its.toArray.size : Int) - 1)) }) (I1.ok.hd hc) ⟨_, Heap.get?_push_size _ rfl, rfl, rfl⟩ (hl.push _) hne hn fun h' tk acc c' hk hS' hi => ?_
  have hfp : ∀ b ∈ [s1.heap.objs.size], FpOk X pins H1 b := fun b hb => by
    rw [List.mem_singleton.mp hb]
    exact ⟨f0, f1, f2, f3, f4, f5⟩
  refine ⟨.ref (s1.heap.push (revObj a ((its.toArray.size : Int) - 1))).objs.size, upd H1 _ (.lst xs.reverse), I2.turnedNew (t' := tk) (ch := [s1.heap.objs.size]) (ob := .lst xs.reverse) (fun b o hb e => hk b o (fun z => hb (by rw [z]; exact List.mem_singleton.mpr rfl)) e) hfp (Nat.le_refl _)
    (show ObjOk X.prog X.w _ _ _ (.lst xs.reverse) from ⟨by rw [List.length_reverse]; exact hz, acc.toList, c', vals_rev rv hi, ?_⟩), rfl, q _ (I2.hok.fresh (Nat.le_refl _))⟩
  rw [Array.toArray_toList]
  exact hS'
end
end LR
namespace L2
open PySem PySem.Spec PyProof.Rows
section
variable {X : Cx} {CX : CXT} {k : Nat} {f C : Addr} {fd : FuncData} {ps : List Str} {sp : Sp} {E : St → XK}
theorem pAt {EX : XK} (h : Passes CX X EX) : ∀ σ, PassesAt CX X σ ((fun _ => EX) σ) := fun σ pins H s e s' I hq => h pins σ H s e s' I hq
/-- a call one level below -/
theorem run_fn1 {pins : List (Addr × Obj)} {σ : St} {H : Hp} {s : Shared} {Q : VK} {us : List Value} {vs : List V} (F : FnOk X.prog X.w X.K X.mg X.base CX k f fd ps sp) (hr : Room (k + 1) X.A) (hb : Binds X.K fd ps []) (hx : PassesAt CX X σ (E σ))
    (I : Inv X pins σ H s) (r : Vals vs us) (h : sp vs H Q (E σ)) : wpAny (model X.prog X.w) X.A.in1 (call (.ref f) us) (EP X pins σ Q) X.xe s := by
  have h' : sp (vs ++ []) H Q (E σ) := by rw [List.append_nil]; exact h
  have r2 : Vals (vs ++ []) (us ++ []) := r.append .nil
  have hl : (us ++ []).length = ps.length := by rw [← r2.length]; exact F.len _ _ _ _ h'
  refine wpAny_call (codeAny_mono (F.run X.A.in1 X.stack s H ⟨us, []⟩ (us ++ []) (vs ++ []) Q (E σ) hr.in1 I.env0.in1 (hb s us I.kIn hl) r2 h') fun r s' hq => ?_)
  cases r with
  | error e => exact hx pins H s e s' I hq
  | ok fl =>
    cases fl with
    | ret u => exact I.after hq
    | next => exact False.elim hq
    | brk => exact False.elim hq
    | cont => exact False.elim hq
theorem run_fn0 {pins : List (Addr × Obj)} {σ : St} {H : Hp} {s : Shared} {Q : VK} {us : List Value} {vs : List V} (F : FnOk X.prog X.w X.K X.mg X.base CX k f fd ps sp) (hr : Room k X.A) (hb : Binds X.K fd ps []) (hx : PassesAt CX X σ (E σ))
    (I : Inv X pins σ H s) (r : Vals vs us) (h : sp vs H Q (E σ)) : wpAny (model X.prog X.w) X.A (call (.ref f) us) (EP X pins σ Q) X.xe s :=
  run_fnSD (dvs := []) (ds := []) F hr hb .nil hx I r (by rw [List.append_nil]; exact h)
/-- an own special method: where it is found -/
structure Spec1 (K : PySem.W.Frag) (C : Addr) (m : String) (f : Addr) : Prop where
  at_ : PySem.W.findIn K (.ref C) m = some (some (.ref f))
  fn : PySem.W.isFn K (.ref f) = true
  isf : PySem.W.fnIn K f = true
/-! ### o[e] by the class's own def -/
def tSubO (C : Addr) (sp : Sp) (E : St → XK) (ta tb : TE) : TE := fun σ H Q => ta σ H fun x H1 => tb σ H1 fun y H2 => ∃ a dx fs, x = .ref a ∧ H2 a = some (.ins C dx fs) ∧ sp [.ref a, y] H2 Q (E σ)
theorem pe_subO {a b : Expr} {ta tb : TE} {pos : Pos} (ha : PE X a ta) (hb : PE X b tb) (hs : Spec1 X.K C "__getitem__" f) (F : FnOk X.prog X.w X.K X.mg X.base CX k f fd ps sp) (hr : Room (k + 1) X.A) (hbd : Binds X.K fd ps []) (hx : ∀ σ, PassesAt CX X σ (E σ))
    (hsl : ∀ x i, subscripted b true (.ref x) i = runValue (.builtin "lifetime.subscript" ⟨[.ref x, i], []⟩) := by intro _ _; rfl) : PE X (.Subscript a b pos) (tSubO C sp E ta tb) := by
  refine ⟨fun pins s σ H Q I h => ?_⟩
  refine Subscript_ (binT (R := fun x y H2 => ∃ a dx fs, x = .ref a ∧ H2 a = some (.ins C dx fs) ∧ sp [.ref a, y] H2 Q (E σ)) ha hb I h fun v u s2 x y H2 I2 rx ry q => ?_)
  obtain ⟨o, dx, fs, rfl, ho, hsp⟩ := q
  cases (show v = Value.ref o from rx)
  obtain ⟨mA, J, _⟩ := ins_get I2.hok ho
  obtain ⟨od, J, _⟩ := J.look
  obtain ⟨m, hF⟩ := I2.fr
  exact PySem.W.sub_K hF I2.ok.mod.kin J hs.at_ hs.isf hs.fn (run_fn1 (vs := [.ref o, y]) F hr hbd (hx σ) I2 (.cons rfl (.cons ry .nil)) hsp) (hsl _ _)
/-! ### e in o -/
def rInO (C : Addr) (sp : Sp) (EX : XK) : R2 := fun x y H Q => ∃ (b dx : Addr) (fs : List (Str × V)), y = .ref b ∧ H b = some (.ins C dx fs) ∧ sp [.ref b, x] H (fun v H' => ∃ c, v = .bl c ∧ Q (.bl c) H') EX
theorem op_inO {EX : XK} (hs : Spec1 X.K C "__contains__" f) (F : FnOk X.prog X.w X.K X.mg X.base CX k f fd ps sp) (hr : Room k X.A) (hbd : Binds X.K fd ps []) (hx : Passes CX X EX) : OpR X (compareOp .In) (rInO C sp EX) := by
  intro pins s σ H x y v u Q I rx ry h
  obtain ⟨b, dx, fs, rfl, hb, hsp⟩ := h
  cases (show u = Value.ref b from ry)
  obtain ⟨mA, J, _⟩ := ins_get I.hok hb
  obtain ⟨od, J, _⟩ := J.look
  obtain ⟨m, hF⟩ := I.fr
  refine PySem.W.in_K hF I.ok.mod.kin J hs.at_ hs.fn ?_
  refine wpAny_mono (run_fn0 (vs := [.ref b, x]) (E := fun _ => EX) F hr hbd (pAt hx σ) I (.cons rfl (.cons rx .nil)) hsp) (fun r s' q => ?_) fun _ _ z => z
  obtain ⟨z, H', I', rw', c, ew, q⟩ := q
  subst ew
  cases rw'
  exact wpAny_pure ⟨.bl c, H', I', rfl, q⟩
theorem op_notinO {EX : XK} (hs : Spec1 X.K C "__contains__" f) (F : FnOk X.prog X.w X.K X.mg X.base CX k f fd ps sp) (hr : Room k X.A) (hbd : Binds X.K fd ps []) (hx : Passes CX X EX) : OpR X (compareOp .NotIn) (fun x y H Q => rInO C sp EX x y H fun v H' => ∃ c, v = .bl c ∧ Q (.bl (!c)) H') := by
  intro pins s σ H x y v u Q I rx ry h
  obtain ⟨b, dx, fs, rfl, hb, hsp⟩ := h
  cases (show u = Value.ref b from ry)
  obtain ⟨mA, J, _⟩ := ins_get I.hok hb
  obtain ⟨od, J, _⟩ := J.look
  obtain ⟨m, hF⟩ := I.fr
  refine PySem.W.notIn_K hF I.ok.mod.kin J hs.at_ hs.fn ?_
  refine wpAny_mono (run_fn0 (vs := [.ref b, x]) (E := fun _ => EX) F hr hbd (pAt hx σ) I (.cons rfl (.cons rx .nil)) hsp) (fun r s' q => ?_) fun _ _ z => z
  obtain ⟨z, H', I', rw', c, ew, c', ec, q⟩ := q
  subst ew
  cases rw'
  cases ec
  exact wpAny_pure ⟨.bl (!c), H', I', rfl, q⟩
/-! ### len(o) -/
theorem call_lenO {EX : XK} (hs : Spec1 X.K C "__len__" f) (F : FnOk X.prog X.w X.K X.mg X.base CX k f fd ps sp) (hr : Room (k + 1) X.A) (hbd : Binds X.K fd ps []) (hx : Passes CX X EX) :
    CallR X (.builtin "len") (fun xs H Q => ∃ (a dx : Addr) (fs : List (Str × V)), xs = [.ref a] ∧ H a = some (.ins C dx fs) ∧ sp [.ref a] H (fun v H' => ∃ n : Int, v = .int n ∧ (0 ≤ n ∧ n < 2 ^ 63) ∧ Q (.int n) H') EX) := by
  intro pins s σ H xs us Q I r h
  obtain ⟨a, dx, fs, rfl, ha, hsp⟩ := h
  obtain ⟨u, rfl, rx⟩ := vals1 r
  cases (show u = Value.ref a from rx)
  obtain ⟨mA, J, _⟩ := ins_get I.hok ha
  obtain ⟨od, J, _⟩ := J.look
  obtain ⟨m, hF⟩ := I.fr
  refine PySem.W.len_K hF I.ok.mod.kin J hs.at_ hs.fn ?_
  refine wpAny_mono (run_fn1 (vs := [.ref a]) (E := fun _ => EX) F hr hbd (pAt hx σ) I (.cons rfl .nil) hsp) (fun r s' q => ?_) fun _ _ z => z
  obtain ⟨z, H', I', rw', n, ew, hn, q⟩ := q
  subst ew
  obtain ⟨t, rfl⟩ := (show ∃ t, r = Value.int n t from rw')
  exact ⟨hn, ⟨.int n, H', I'.tok _, ⟨_, rfl⟩, q⟩⟩
/-! ### o | p -/
def tOrO (C : Addr) (sp : Sp) (E : St → XK) (ta tb : TE) : TE := fun σ H Q => ta σ H fun x H1 => tb σ H1 fun y H2 => ∃ a b dx dy fs gs, x = .ref a ∧ y = .ref b ∧ H2 a = some (.ins C dx fs) ∧ H2 b = some (.ins C dy gs) ∧ sp [.ref a, .ref b] H2 (fun v H3 => (∃ c, v = .ref c) ∧ Q v H3) (E σ)
theorem pe_orO {a b : Expr} {ta tb : TE} {pos : Pos} (ha : PE X a ta) (hb : PE X b tb) (hs : Spec1 X.K C "__or__" f) (hc : PySem.W.selfFirst X.K C = true) (F : FnOk X.prog X.w X.K X.mg X.base CX k f fd ps sp) (hr : Room k X.A) (hbd : Binds X.K fd ps []) (hx : ∀ σ, PassesAt CX X σ (E σ)) : PE X (.BinOp a .BitOr b pos) (tOrO C sp E ta tb) := by
  refine ⟨fun pins s σ H Q I h => ?_⟩
  refine wpAny_BinOp (binT (R := fun x y H2 => ∃ a b dx dy fs gs, x = .ref a ∧ y = .ref b ∧ H2 a = some (.ins C dx fs) ∧ H2 b = some (.ins C dy gs) ∧ sp [.ref a, .ref b] H2 (fun v H3 => (∃ c, v = .ref c) ∧ Q v H3) (E σ)) ha hb I h fun v u s2 x y H2 I2 rx ry q => ?_)
  obtain ⟨o, p, dx, dy, fs, gs, rfl, rfl, ho, hp, hsp⟩ := q
  cases (show v = Value.ref o from rx)
  cases (show u = Value.ref p from ry)
  obtain ⟨mA, J, _⟩ := ins_get I2.hok ho
  obtain ⟨mB, J', _⟩ := ins_get I2.hok hp
  obtain ⟨od, J, _⟩ := J.look
  obtain ⟨od', J', _⟩ := J'.look
  obtain ⟨m, hF⟩ := I2.fr
  refine PySem.W.binop_K (op := .BitOr) hF I2.ok.mod.kin J J'.type hc hs.at_ hs.fn ?_
  refine wpAny_mono (run_fn0 (vs := [.ref o, .ref p]) F hr hbd (hx σ) I2 (.cons rfl (.cons rfl .nil)) hsp) (fun r s' q => ?_) fun _ _ z => z
  obtain ⟨z, H', I', rw', ⟨c, ew⟩, q⟩ := q
  subst ew
  cases (show r = Value.ref c from rw')
  exact ⟨.ref c, H', I', rfl, q⟩
end
end L2
namespace L2
open PySem PySem.Spec PyProof.Rows
/-! ### d.setdefault(t, x), t a tuple -/
def rSetDefT : V → List V → Hp → VK → Prop := fun x xs H Q => ∃ (a : Addr) (kvs : List (List L2.Key × V)) (k : List L2.Key) (b : Addr) (d : V), x = .ref a ∧ xs = [.ref b, d] ∧ H a = some (.dT kvs) ∧ H b = some (.tup (k.map kV)) ∧ kvs.length < sizeLine ∧
  (∀ v, valV kvs k = some v → Q v H) ∧ (valV kvs k = none → Q d (upd H a (.dT (putK kvs k d))))
theorem mt_setdefT {X : Cx} (hu : X.A.units + 1 < cLine) : MtR X "dict.setdefault" rSetDefT := by
  intro pins s σ H x xs v us Q I rx rxs h
  obtain ⟨a, kvs, k, b, d, rfl, rfl, ha, hb, hl, q1, q2⟩ := h
  cases rx
  obtain ⟨u1, u2, rfl, r1, r2⟩ := vals2 rxs
  cases r1
  obtain ⟨z, hd, xs', rel, dd⟩ := dt_of I.hok ha
  have hz : xs'.length ≤ sizeLine := by rw [← Paired.length rel]; exact z
  have le : (putK kvs k d).length ≤ sizeLine := by have := length_putK kvs k d; omega
  refine call_setdefault_heap (knd := tupleKind (mixKind X.prog X.w)) (k := k) (tupleKind_room_in1 hu) (key_of I.hok hb) hd dd (fun p hp => ?_) (fun hn h' dd' same => ?_) hz
  · have r := rel.val k
    rw [hp] at r
    cases ev : valV kvs k with
    | none =>
      rw [ev] at r
      exact (show False from r).elim
    | some v0 =>
      rw [ev] at r
      exact ⟨v0, H, I.tok _, r, q1 v0 ev⟩
  · have r := rel.val k
    rw [hn] at r
    have e : valV kvs k = none := by
      cases ev : valV kvs k with
      | none => rfl
      | some v0 =>
        rw [ev] at r
        exact (show False from r).elim
    obtain ⟨q, es, ep, e1, e2, e3, e4, _, e5⟩ := dd'
    refine ⟨d, upd H a (.dT (putK kvs k d)), d_write I (by rw [ha]; exact True.intro) same ⟨q, e1⟩ ⟨le, hd, _, (rel.put k hb r2).keeps fun c ys ec => ?_, q, es, ep, e1, e2, e3, e4, by first | exact e5 | assumption⟩, r2, q2 e⟩
    rw [upd_ne (ne_of ec ha (fun z => nomatch z))]
    exact ec
end L2
namespace L2
open PySem PySem.Spec PyProof.Rows
/-! ### several dicts locked at once -/
def tLockNE (t : TE) : Nat → TE
  | 0 => t
  | n + 1 => tLockE (tLockNE t n)
theorem pe_lockN {X : Cx} {e : Expr} {t : TE} (h : PE X e t) : ∀ n, PE X e (tLockNE t n)
  | 0 => h
  | n + 1 => pe_lock (pe_lockN h n)
def tLocksE (t : TE) : TE := fun σ H Q => ∃ n, tLockNE t n σ H Q
theorem pe_locks {X : Cx} {e : Expr} {t : TE} (h : PE X e t) : PE X e (tLocksE t) := ⟨fun pins s σ H Q I ⟨n, hn⟩ => (pe_lockN h n).run pins s σ H Q I hn⟩
def tLockN (t : TS) : Nat → TS
  | 0 => t
  | n + 1 => tLock (tLockN t n)
theorem ps_lockN {X : Cx} {st : Stmt} {t : TS} (h : PS X st t) : ∀ n, PS X st (tLockN t n)
  | 0 => h
  | n + 1 => ps_lock (ps_lockN h n)
def tLocks (t : TS) : TS := fun D σ H => ∃ n, tLockN t n D σ H
theorem ps_locks {X : Cx} {st : Stmt} {t : TS} (h : PS X st t) : PS X st (tLocks t) := ⟨fun pins s σ H D I ⟨n, hn⟩ => (ps_lockN h n).run pins s σ H D I hn⟩
end L2
namespace L2
open PySem PySem.Spec PyProof.Rows
/-- a statement's value; a comprehension's scope -/
def stVal : Stmt → Expr
  | .Assign _ v _ => v
  | .Return (some v) _ => v
  | _ => .Name "" ⟨0, 0, 0, 0⟩
def cmpSc (d : Scope) : Expr → Scope
  | .ListComp _ _ s _ => s
  | .DictComp _ _ _ s _ => s
  | _ => d
/-! ### a dict that nobody else writes is locked for good -/
def tFrz (t : TE) : TE := fun σ H Q => t σ H fun x H1 => ∃ d u, x = .ref d ∧ H1 d = some u ∧ Mut (some u) ∧ ∀ od, Q (.ref d) (upd H1 d (.frz od u))
theorem pe_frz {X : Cx} {e : Expr} {t : TE} (h : PE X e t) : PE X e (tFrz t) := by
  refine ⟨fun pins s σ H Q I hw => ?_⟩
  refine thn (h.run pins s σ H _ I hw) fun v s1 ⟨x, H1, I1, r, d, u, ex, hd, mu, q⟩ => ?_
  subst ex
  obtain ⟨od, I2⟩ := I1.lock hd mu
  exact ⟨.ref d, _, I2, r, q od⟩
end L2
namespace L2
open PySem PySem.Spec PyProof.Rows
/-- within a comprehension the reading must not speak of the block's own context -/
theorem pi_listK {X : Cx} {tg l : Expr} {tl : TE} {K : PySem.W.Frag} (e : X.K = K) (hl : PE X l tl) : PI X tg l (iList K tl) := by
  subst e
  exact pi_list hl
theorem pg_tupK {X : Cx} {es : List Expr} {k : Nat} {pos : Pos} {t : TGs} {K : PySem.W.Frag} (n : Nat) (hc : X.calm = true) (e : X.K = K) (h : PGs X es t)
    (hn : (assignEach es X.env).length = n := by rfl) (hst : (assignEach es X.env).findIdx? (·.1) = none := by rfl) : PG X (.Tuple es k pos) (gTup K n t) := by
  subst e
  exact pg_tup hc h hn hst
theorem pi_tupK {X : Cx} {tg l : Expr} {tl : TE} {K : PySem.W.Frag} (e : X.K = K) (hl : PE X l tl) : PI X tg l (iTup K tl) := by
  subst e
  exact pi_tup hl
/-- tuple(list), tuple(tuple), told without the block -/
def rTupS (K : PySem.W.Frag) : List V → Hp → VK → Prop := fun xs H Q => ∃ p ys, xs = [.ref p] ∧ ((SqL K H p ys ∧ ∀ l, H l = none → Q (.ref l) (upd H l (.tup ys))) ∨ (SqT K H p ys ∧ Q (.ref p) H))
end L2
namespace L2
open PySem PySem.Spec PyProof.Rows
/-! ### == of dicts whose keys are tuples, and of dicts that hold such dicts -/
section
open PySem.W PySem.SeqAt
variable {prog : Program} {w : World} {κ : Type} [DecidableEq κ] {knd : HeapKind prog w κ} {A : Around} {E : Value → Shared → Prop} {s : Shared}
def pairH (x : κ × Addr × Value) : κ × Value := (x.1, x.2.2)
theorem valH (xs : List (κ × Addr × Value)) (k : κ) : valueAt (xs.map pairH) k = (atKey xs k).map (·.2) := by
  unfold valueAt atKey
  rw [List.find?_map]
  show ((xs.find? fun x => decide (x.1 = k)).map pairH).map (·.2) = _
  cases xs.find? (fun x => decide (x.1 = k)) <;> rfl
/-- what is left of the first dict's pairs, from the j-th on -/
def RestH (kb : List (κ × Addr × Value)) (ka : List (κ × Addr × Value)) (many : Nat) (out : Bool) (A : Around) (s : Shared) (todo : List Nat) : Prop :=
  ∃ j, todo = List.range' j (many - j) ∧ j ≤ many ∧ KeqHitsIn prog w A s (kb.map pairH) ((ka.drop j).map pairH) out
theorem range_step {x j many : Nat} {todo : List Nat} (h : x :: todo = List.range' j (many - j)) : j < many ∧ x = j ∧ todo = List.range' (j + 1) (many - (j + 1)) := by
  cases d : many - j with
  | zero =>
    rw [d] at h
    exact nomatch h
  | succ z =>
    rw [d, List.range'_succ] at h
    obtain ⟨h1, h2⟩ := List.cons.inj h
    exact ⟨by omega, h1, by rw [h2]; congr 1; omega⟩
theorem range_done {j many : Nat} (h : ([] : List Nat) = List.range' j (many - j)) (hj : j ≤ many) : j = many := by
  cases d : many - j with
  | zero => omega
  | succ z =>
    rw [d, List.range'_succ] at h
    exact nomatch h
theorem samePairsH {nm : String} {a b : Addr} {ka kb : List (κ × Addr × Value)} {r : Bool} {Q : Bool → Shared → Prop} (ha : (a == sysModules) = false) (hb : (b == sysModules) = false)
    (da : s.heap.DictOfH knd a ka) (db : s.heap.DictOfH knd b kb) (hu : knd.room A) (hits : ka.length = kb.length → KeqHitsIn prog w A s (kb.map pairH) (ka.map pairH) r) (h : Q (ka.length == kb.length && r) s) :
    wpAny (model prog w) A (Builtin.Dict.samePairs nm a b) Q E s := by
  obtain ⟨o1, tab1, c1, look1, _, dat1, lay1, key1, _⟩ := da
  obtain ⟨o2, tab2, c2, look2, _, dat2, lay2, key2, dif2⟩ := db
  have z1 := size_of_entries lay1
  have z2 := size_of_entries lay2
  have n1 : ¬ (a == sysModules) = true := by simp [ha]
  have n2 : ¬ (b == sysModules) = true := by simp [hb]
  unfold Builtin.Dict.samePairs Builtin.Dict.showsAll
  rw [if_neg n1, if_neg n2]
  refine wpAny_bind <| wpAny_pure <| wpAny_bind <| wpAny_pure <| wpAny_bind <| wpAny_dictEntries look1 dat1 ?_
  dsimp only
  refine wpAny_bind <| wpAny_dictEntries look2 dat2 ?_
  by_cases same : tab1.size = tab2.size
  · have q0 : Q r s := by
      have e : (ka.length == kb.length) = true := by rw [beq_iff_eq]; omega
      rw [e, Bool.true_and] at h
      exact h
    rw [if_neg (by simp [same])]
    refine wpAny_bind <| wpAny_dictEpoch look1 dat1 <| wpAny_bind ?_
    rw [Std.Legacy.Range.forIn_eq_forIn_range']
    simp only [Std.Legacy.Range.size, Nat.sub_zero, Nat.add_sub_cancel, Nat.div_one]
    refine wpAny_forIn_list _ (fun todo st s' => s' = s ∧ st = (none, ()) ∧ RestH (prog := prog) (w := w) kb ka tab1.size r A s todo) _ (fun x todo st s' hp => ?_) (fun st s' hp => ?_) _ _ ⟨rfl, rfl, 0, by simp, Nat.zero_le _, hits (by omega)⟩
    · obtain ⟨rfl, rfl, j, hj, _, rest⟩ := hp
      obtain ⟨lt, rfl, hj2⟩ := range_step hj
      have lt' : x < ka.length := by omega
      refine wpAny_bind <| wpAny_dictEntries look1 dat1 ?_
      have at1 : tab1[x]? = some (entryOfKey knd ka[x]) := by rw [entry_at lay1 x, List.getElem?_eq_getElem lt']; rfl
      rw [at1]
      have kx := key1 _ (List.getElem_mem lt')
      rw [List.drop_eq_getElem_cons lt', List.map_cons] at rest
      show wpAny _ _ (holding [Value.ref ka[x].2.1, ka[x].2.2] _ >>= _) _ _ _
      refine wpAny_bind <| wpAny_holding <| wpAny_bind <| wpAny_dictFind_heap hu kx look2 dat2 lay2 key2 dif2 (fun miss => ?_) (fun i p hit => ?_)
      · have hv : valueAt (kb.map pairH) ka[x].1 = none := by rw [valH, atKey_none_of_get miss]; rfl
        obtain ⟨_, rfl⟩ | ⟨y, _, _, hy, _⟩ := rest.inv
        · exact wpAny_pure (by rw [if_pos (by decide)]; exact wpAny_pure (wpAny_pure q0))
        · exact nomatch hv.symm.trans hy
      · have hv : valueAt (kb.map pairH) ka[x].1 = some p.2 := by rw [valH, atKey_of_get dif2 hit]; rfl
        refine wpAny_bind <| wpAny_dictEntries look2 dat2 ?_
        rw [entry_at lay2 i, hit]
        obtain ⟨hn, _⟩ | ⟨y, t, u, hy, heq, more, rfl⟩ := rest.inv
        · exact nomatch hn.symm.trans hv
        · cases hv.symm.trans hy
          refine wpAny_holding (heq _ _ ?_)
          cases t with
          | false =>
            rw [if_pos (by decide)]
            exact wpAny_pure (wpAny_pure q0)
          | true =>
            rw [if_neg (by decide)]
            refine wpAny_bind <| wpAny_dictEpoch look1 dat1 ?_
            rw [if_neg (by simp)]
            exact wpAny_pure ⟨rfl, rfl, x + 1, hj2, lt, more⟩
    · obtain ⟨rfl, rfl, j, hj, le, rest⟩ := hp
      have := range_done hj le
      rw [this, z1, List.drop_length] at rest
      cases rest
      exact wpAny_pure q0
  · have e : (ka.length == kb.length) = false := by rw [beq_eq_false_iff_ne]; omega
    rw [e, Bool.false_and] at h
    rw [if_pos (by simp [same])]
    exact wpAny_bind (wpAny_rule (wpAny_pure h))
theorem rcH_dicts {a b : Addr} {ka kb : List (κ × Addr × Value)} {r : Bool} {Q : Value → Shared → Prop} (ha : (a == sysModules) = false) (hb : (b == sysModules) = false)
    (da : s.heap.DictOfH knd a ka) (db : s.heap.DictOfH knd b kb) (hr : knd.room A.in1) (hu : A.units < cLine) (hits : ka.length = kb.length → KeqHitsIn prog w A.in1 s (kb.map pairH) (ka.map pairH) r) (h : Q (.bool (ka.length == kb.length && r)) s) : wpAny (model prog w) A (richCompare .Eq (.ref a) (.ref b)) Q E s := by
  have told : wpAny (model prog w) A.in1 (Builtin.Dict.samePairs "dict.__eq__" a b) (fun c s' => c = (ka.length == kb.length && r) ∧ s' = s) E s := samePairsH ha hb da db hr hits ⟨rfl, rfl⟩
  have ta := da.typeIs
  have tb := db.typeIs
  refine wpAny_richCompare_same_room (op := .Eq) ta tb PySem.F.slot_dict_eq (wpAny_call_entry PySem.F.slot_dict_eq ta PySem.F.entry_dict_eq (s := s) ?_ (PySem.F.args_dict_eq_2 _ _)) hu
  show wpAny _ _ (Builtin.Dict.dictSlotArgs "__eq__" ⟨[.ref a, .ref b], []⟩ >>= _) _ _ s
  unfold Builtin.Dict.dictSlotArgs
  refine wpAny_bind <| wpAny_bind <| wpAny_notOrdered_dict ta <| wpAny_pure <| wpAny_bind <| wpAny_isInstance (T := "dict") tb PySem.F.sub_dict_dict ?_
  simp only [Bool.not_true, Bool.false_eq_true, if_false]
  refine wpAny_bind <| wpAny_pure <| wpAny_bind <| wpAny_pure <| wpAny_bind <| wpAny_mono told (fun c s' e => ?_) fun _ _ z => z
  obtain ⟨rfl, rfl⟩ := e
  exact wpAny_pure ⟨_, rfl, (fun x => nomatch x), by simpa using h⟩
end
abbrev KRow := List Key
def rowsV (us : List KRow) : List (KRow × V) := us.map fun k => (k, V.bl true)
def hasR (ls : List KRow) (u : KRow) : Bool := ls.any fun k => decide (k = u)
theorem hasR_iff {ls : List KRow} {u : KRow} : hasR ls u = true ↔ u ∈ ls := by
  unfold hasR
  rw [List.any_eq_true]
  constructor
  · rintro ⟨x, hx, e⟩
    rw [← of_decide_eq_true e]
    exact hx
  · exact fun h => ⟨u, h, decide_eq_true rfl⟩
theorem hasR_no {ls : List KRow} {u : KRow} (h : u ∉ ls) : hasR ls u = false := by
  cases e : hasR ls u with
  | false => rfl
  | true => exact absurd (hasR_iff.mp e) h
def sameRows (us ls : List KRow) : Bool := us.length == ls.length && us.all fun k => hasR ls k
def rowsIn (H : Hp) (v : V) (us : List KRow) : Prop := ∃ q, v = .ref q ∧ H q = some (.dT (rowsV us))
theorem rowsV_inj {us ls : List KRow} (h : rowsV us = rowsV ls) : us = ls := by
  have := congrArg (List.map Prod.fst) h
  unfold rowsV at this
  rw [List.map_map, List.map_map] at this
  have e : ∀ l : List KRow, l.map ((fun x => x.1) ∘ fun k => (k, V.bl true)) = l := fun l => List.map_id l
  exact (e us).symm.trans (this.trans (e ls))
theorem sameRows_self (us : List KRow) : sameRows us us = true := by
  unfold sameRows
  rw [Bool.and_eq_true, List.all_eq_true]
  exact ⟨by simp, fun k hk => hasR_iff.mpr hk⟩
section
variable {X : Cx}
theorem hitsR {pw : Program} {w : World} {H : Hp} {A : Around} {s : Shared} {ls : List KRow} {kb : List (KRow × Addr × Value)} (rb : KT H (rowsV ls) kb) : ∀ {us : List KRow} {ka : List (KRow × Addr × Value)}, KT H (rowsV us) ka → PySem.W.KeqHitsIn pw w A s (kb.map pairH) (ka.map pairH) (us.all fun k => hasR ls k)
  | [], _, r => by cases r; exact .nil
  | u :: us, _, r => by
    cases r with
    | @cons _ q _ qs h t =>
      obtain ⟨h1, h2, h3⟩ := h
      have ih := hitsR (s := s) (A := A) (pw := pw) (w := w) rb t
      rw [List.all_cons, List.map_cons]
      have hv := rb.val u
      by_cases hm : u ∈ ls
      · rw [hasR_iff.mpr hm]
        have e1 : valV (rowsV ls) u = some (.bl true) := by
          clear hv ih rb
          unfold rowsV
          induction ls with
          | nil => cases hm
          | cons x xs ih =>
            rw [List.map_cons]
            by_cases e : x = u
            · unfold valV
              simp [e]
            · rcases List.mem_cons.mp hm with z | z
              · exact absurd z.symm e
              · have := ih z
                unfold valV at this ⊢
                rw [List.find?_cons_of_neg (by simp [e])]
                exact this
        rw [e1] at hv
        obtain ⟨y, hy, ry⟩ := hv.some_of
        refine .hit (v := q.2.2) (k := q.1) (y := y) (by rw [valH, ← h1]; exact hy) ?_ ih
        exact (eqAt_sameB h3 ry rfl).inModel _ _
      · rw [hasR_no hm, Bool.false_and]
        have e1 : valV (rowsV ls) u = none := by
          unfold valV
          rw [Option.map_eq_none_iff, List.find?_eq_none]
          intro x hx e
          obtain ⟨z, hz, rfl⟩ := List.mem_map.mp hx
          exact hm (by rw [← (show z = u from of_decide_eq_true e)]; exact hz)
        rw [e1] at hv
        have hn : (atKey kb u).map (·.2) = none := by
          cases e2 : (atKey kb u).map (·.2) with
          | none => rfl
          | some _ => rw [e2] at hv; exact (show False from hv).elim
        exact .miss (v := q.2.2) (k := q.1) (by rw [valH, ← h1]; exact hn)
theorem eqIn_rows {pins : List (Addr × Obj)} {σ : L2.St} {H : Hp} {s : Shared} {A : Around} (I : Inv X pins σ H s) (hu : A.units + 2 < cLine) {q q' : Addr} {us ls : List KRow} (h1 : H q = some (.dT (rowsV us))) (h2 : H q' = some (.dT (rowsV ls))) : PySem.SeqAt.EqIn X.prog X.w A s (.ref q) (.ref q') (sameRows us ls) := by
  by_cases e : q = q'
  · subst e
    rw [h1] at h2
    have : us = ls := rowsV_inj (HO.dT.inj (Option.some.inj h2))
    subst this
    rw [sameRows_self]
    exact (SeqAt.EqAt.same _).inModel _ _
  · obtain ⟨_, ya, va, ra, da⟩ := dt_of I.hok h1
    obtain ⟨_, yb, vb, rb, db⟩ := dt_of I.hok h2
    have la : va.length = us.length := by rw [← Paired.length ra]; unfold rowsV; rw [List.length_map]
    have lb : vb.length = ls.length := by rw [← Paired.length rb]; unfold rowsV; rw [List.length_map]
    refine PySem.SeqAt.EqIn.of_refs e fun E Q hq => rcH_dicts ya yb da db (show A.units + 1 < cLine by omega) (by omega) (fun _ => hitsR rb ra) ?_
    rw [la, lb]
    exact hq
def eqRR (D : V → List KRow) (ks ls : List (Key × V)) : Bool := (ks.length == ls.length) && ks.all fun p => match valV ls p.1 with
  | none => false
  | some v => sameRows (D p.2) (D v)
theorem hitsRR {pins : List (Addr × Obj)} {σ : L2.St} {H : Hp} {s : Shared} {A : Around} (I : Inv X pins σ H s) (hu : A.units + 2 < cLine) (D : V → List KRow) {ls : List (Key × V)} {vb : List (Key × Value)} (rb : KV ls vb) (hb : ∀ p ∈ ls, rowsIn H p.2 (D p.2)) {ks : List (Key × V)} {va : List (Key × Value)} (ra : KV ks va) :
    (∀ p ∈ ks, rowsIn H p.2 (D p.2)) → PySem.W.KeqHitsIn X.prog X.w A s vb va (ks.all fun p => match valV ls p.1 with
      | none => false
      | some v => sameRows (D p.2) (D v)) := by
  unfold KV at ra
  induction ra with
  | nil => intro _; exact .nil
  | @cons p q ps qs h t ih =>
    intro hp
    obtain ⟨h1, h2⟩ := h
    obtain ⟨k, v⟩ := q
    have h1' : p.1 = k := h1
    have rr := rb.val p.1
    have ih' := ih fun p' hm => hp p' (List.mem_cons_of_mem _ hm)
    rw [List.all_cons]
    cases e : valV ls p.1 with
    | none =>
      rw [e] at rr
      have hn : valueAt vb p.1 = none := by
        cases e2 : valueAt vb p.1 with
        | none => rfl
        | some _ => rw [e2] at rr; exact (show False from rr).elim
      rw [h1'] at hn
      exact .miss hn
    | some y =>
      rw [e] at rr
      obtain ⟨u, hy, ry⟩ := rr.some_of
      rw [h1'] at hy
      have hy2 : ∃ q ∈ ls, q.2 = y := by
        unfold valV at e
        cases e3 : ls.find? fun kv => decide (kv.1 = p.1) with
        | none => rw [e3] at e; cases e
        | some q => rw [e3] at e; exact ⟨q, List.mem_of_find?_eq_some e3, Option.some.inj e⟩
      obtain ⟨z, hz, rfl⟩ := hy2
      obtain ⟨q1, e1, g1⟩ := hp p List.mem_cons_self
      obtain ⟨q2, e2, g2⟩ := hb z hz
      have r1 : v = Value.ref q1 := by
        have : RelV p.2 v := h2
        rw [e1] at this
        exact this
      have r2 : u = Value.ref q2 := by
        rw [e2] at ry
        exact ry
      rw [r2] at hy
      have hh := eqIn_rows I hu g1 g2
      rw [← r1] at hh
      exact .hit hy hh ih'
def rEqRR : R2 := fun x y H Q => ∃ (a b : Addr) (ks ls : List (Key × V)) (D : V → List KRow), x = .ref a ∧ y = .ref b ∧ H a = some (.dK ks) ∧ H b = some (.dK ls) ∧ (∀ p ∈ ks, rowsIn H p.2 (D p.2)) ∧ (∀ p ∈ ls, rowsIn H p.2 (D p.2)) ∧ Q (.bl (eqRR D ks ls)) H
theorem op_eqRR {X : Cx} (hu : X.A.units + 65 < cLine) : OpR X (compareOp .Eq) rEqRR := by
  intro pins s σ H x y v u Q I rx ry h
  obtain ⟨a, b, ks, ls, D, rfl, rfl, ea, eb, ha, hb, q⟩ := h
  obtain rfl : v = Value.ref a := rx
  obtain rfl : u = Value.ref b := ry
  obtain ⟨_, ya, va, ra, da⟩ := (show ObjOk X.prog X.w H s.heap a (.dK ks) from I.hok a _ ea)
  obtain ⟨_, yb, vb, rb, db⟩ := (show ObjOk X.prog X.w H s.heap b (.dK ls) from I.hok b _ eb)
  refine PySem.W.keq_eqIn (knd := mixKind X.prog X.w) ya yb da db (by omega) (fun _ => hitsRR I (by show X.A.units + 1 + 2 < cLine; omega) D rb hb ra ha) (fin_bl I q ?_)
  unfold eqRR
  rw [ra.length, rb.length]
end
end L2
namespace TM
open PySem PySem.Spec PyProof.Rows L2
/-! ### try with several clauses 'except C as n' -/
/-- behind a clause the slot of its name is bare again -/
def gone (D : Ends) (i : Nat) : Ends := ⟨fun σ H => D.nx (σ.set i none) H, D.rt, fun σ H => D.bk (σ.set i none) H, fun σ H => D.ct (σ.set i none) H⟩
abbrev Clause := Value × Nat × (Addr → Value → Option Addr → TS)
/-- what the clauses wish of an exception, one after the other -/
def wish (K : PySem.W.Frag) (Wout : WX) (D : Ends) : List Clause → WX
  | [] => Wout
  | q :: rest => fun cls d σ H => ∃ b, PySem.W.exmOne K cls q.1 = some b ∧ (b = true → ∀ a, H a = none → q.2.2 a cls d (gone D q.2.1) (σ.set q.2.1 (some (.ref a))) H) ∧ (b = false → wish K Wout D rest cls d σ H)
inductive Clauses (X : Cx) : List ExceptHandler → List Clause → Prop
  | nil : Clauses X [] []
  | cons {x n : Str} {c : Value} {i : Nat} {ts : Addr → Value → Option Addr → TS} {b₀ : Stmt} {suite : List Stmt} {np cpos : Pos} {more : List ExceptHandler} {l : List Clause} (at_ : X.N[i]? = some n) (loc : X.env.kindOf n = some .local) (hc : Names X x c)
      (body : ∀ (a : Addr) (oe : Obj) (cls : Value) (d : Option Addr) (pn : List (Addr × Obj)), Zc cls d oe → (∃ vs, oe.data = .fields vs) → PSs (X.suite a ((a, oe) :: pn)) (b₀ :: suite) (ts a cls d)) (rest : Clauses X more l) :
      Clauses X (.ExceptHandler (some (.Name x np)) (some n) (b₀ :: suite) cpos :: more) ((c, i, ts) :: l)
theorem Clauses.one {X : Cx} {x n : Str} {c : Value} {i : Nat} {ts : Addr → Value → Option Addr → TS} {b₀ : Stmt} {suite : List Stmt} {np cpos : Pos} {more : List ExceptHandler} {l : List Clause} (rest : Clauses X more l) (at_ : X.N[i]? = some n) (loc : X.env.kindOf n = some .local) (hc : Names X x c)
    (body : ∀ (a : Addr) (oe : Obj) (cls : Value) (d : Option Addr) (pn : List (Addr × Obj)), Zc cls d oe → (∃ vs, oe.data = .fields vs) → PSs (X.suite a ((a, oe) :: pn)) (b₀ :: suite) (ts a cls d)) : Clauses X (.ExceptHandler (some (.Name x np)) (some n) (b₀ :: suite) cpos :: more) ((c, i, ts) :: l) := .cons at_ loc hc body rest
section
variable {X : Cx}
theorem ps_try_clauses {body : List Stmt} {h₀ : ExceptHandler} {hds : List ExceptHandler} {l : List Clause} {pos : Pos} {tb : WX → TS} {Wout : WX} (hs : X.stack = X.env :: X.outer) (hf : X.env.frame = some X.env.locals) (hN : X.N.Nodup) (tk : Takes X Wout)
    (hh : Clauses X (h₀ :: hds) l)
    (hb : ∀ (W : WX) (pn : List (Addr × Obj)) (xe : Value → Shared → Prop), Takes (X.tr pn xe) W → PassesOwn (model X.prog X.w) X.A X.env xe → PSs (X.tr pn xe) body (tb W)) :
    PS X (.Try body (h₀ :: hds) [] [] pos) (fun D σ H => tb (wish X.K Wout D l) D σ H) := by
  refine ⟨fun pins s σ H D I want => ?_⟩
  have iok := I.ok
  have frames : X.A.frames = some (X.env :: X.outer) := iok.frames.trans (by rw [hs])
  refine wpAny_Try_except (wpAny_mono ((hb (wish X.K Wout D l) (X.pn ++ pins) (fun e z₁ => wpAny (model X.prog X.w) X.A (noteFrame e X.env) (fun _ z₂ => wpAny (model X.prog X.w) X.A (setFlight e none) (fun _ z₃ =>
    wpAny (model X.prog X.w) X.A (handleBy e X.env (h₀ :: hds)) (SP X pins D) X.xe z₃) X.xe z₂) X.xe z₁) (fun thrown t caught => ?_) PassesOwn.looking).run [] s σ H D (I.toTry _) want) (fun out t fine => ?_) fun _ _ z => z)
  · obtain ⟨a, B, t0, pins', σ', H', cls, d, rfl, inv0, nb, up0, air, na, os, ag, wished⟩ := caught
    have inv : Inv X pins σ' H' t0 := inv0.ofTry iok
    rw [hs] at air
    show wpAny (model X.prog X.w) X.A (noteFrame (.ref a) X.env) _ _ _
    refine Sky.land Zc.steady frames hf air fun g fl upg => ?_
    have invg : Inv X pins σ' H' { t with heap := g } := inv.landed nb fl.1 (up0.trans upg) os ag
    obtain ⟨oe, us, oeg, zc, dat⟩ := fl.there
    have apart : a ∉ frs (X.env :: X.outer) := fun hm => by
      obtain ⟨_, o2, o2g, no⟩ := fl.2.2.1.mem hm
      cases oeg.symm.trans o2g
      exact no _ dat
    have out : ∀ e ∈ X.env :: X.outer, ∀ q, e.frame = some q → a ≠ q := fun e he q hq z => apart (List.mem_filterMap.mpr ⟨e, he, by rw [hq, z]⟩)
    have nloc : a ≠ X.env.locals := out _ List.mem_cons_self _ hf
    have nfs : a ∉ X.fs := fun hm => by
      obtain ⟨e, he, q⟩ := List.mem_filterMap.mp hm
      exact out e (List.mem_cons_of_mem _ he) a q rfl
    have su := invg.suite oeg dat na nloc nfs
    suffices go : ∀ {hd : List ExceptHandler} {cl : List Clause}, Clauses X hd cl → wish X.K Wout D cl cls d σ' H' → wpAny (model X.prog X.w) X.A (handleBy (.ref a) X.env hd) (SP X pins D) X.xe { t with heap := g } from go hh wished
    intro hd cl ok
    induction ok with
    | nil =>
      intro want
      refine wpAny_handleBy_nil ?_
      obtain ⟨_, _, _, oe', us', T, _, _, oeg', _, dat', first', _⟩ := id fl
      unfold PySem.passOn
      refine wpAny_bind (wpAny_field oeg' dat' first' ?_)
      have isT : ¬ ((Value.ref T == Value.none) = true) := by simp
      rw [if_neg isT]
      have thrown : wpAny (model X.prog X.w) X.A (setFlight (.ref a) X.env.frame) (fun _ z => wpAny (model X.prog X.w) X.A (throw (.ref a) : Sem Flow) (SP X pins D) X.xe z) X.xe { t with heap := g } := by
        rw [hf]
        exact HandSPX.setFlight_upZ fl fun g4 air4 up4 => wpAny_throw (tk _ _ ⟨a, B, t0, pins, σ', H', cls, d, rfl, inv, nb, (up0.trans upg).trans up4, .inr (.inr (by rw [hs]; exact air4)), na, os, ag, want⟩)
      first
        | exact wpAny_bind (wpAny_pure (wpAny_bind thrown))
        | exact wpAny_bind thrown
    | @cons x n c i ts b₀ suite np cpos more rest' at_ loc hc bodyOk rest ih =>
      intro want
      obtain ⟨b, told, yes, no⟩ := want
      refine wpAny_handleBy_cons (codeAny_handlers_test ?_) (by intro q; cases q)
      have look : PySem.W.Looks (model X.prog X.w) g (typeOf (.ref a)) cls := fun A Q E s k q => wpAny_typeOf_ref (k _ _ oeg) (by rw [zc.1]; exact q)
      have asked := PySem.W.exm_one (M := model X.prog X.w) invg.kIn look told
      have named : ∀ {Q : Value → Shared → Prop} {E : Value → Shared → Prop}, Q c { t with heap := g } → wpAny (model X.prog X.w) (X.A.mark (some (.ref a))) (eval (.Name x np) X.env) Q E { t with heap := g } := fun {Q E} q => by
        obtain ⟨hg, dbg, hm | ⟨hm, hv, nn⟩⟩ := hc
        · exact ld_glob (X := X.suite a ((a, oe) :: (X.pn ++ pins))) su hg hm q dbg
        · exact ld_blt (X := X.suite a ((a, oe) :: (X.pn ++ pins))) su hg hm hv q nn dbg
      refine named (asked.here ?_)
      cases b with
      | false => exact ih (no rfl)
      | true =>
        refine codeAny_handlers_suite_as (HandSPX.lands_againZ fl fun g4 fl4 up4 => ?_)
        have inv4 : Inv X pins σ' H' { t with heap := g4 } := inv.landed nb fl4.1 ((up0.trans upg).trans up4) os ag
        obtain ⟨oe4, us4, oeg4, zc4, dat4⟩ := fl4.there
        have su4 := inv4.suite oeg4 dat4 na nloc nfs
        refine store_ok (X := X.suite a ((a, oe4) :: (X.pn ++ pins))) (v := .ref a) su4 hN at_ (.inl loc) rfl (fun t5 su5 => ?_) (.inr loc)
        have bare : ∀ {σ6 : L2.St} {H6 : Hp} {t6 : Shared} {Q : Shared → Prop}, Inv (X.suite a ((a, oe4) :: (X.pn ++ pins))) [] σ6 H6 t6 → (∀ t7, Inv X pins (σ6.set i none) H6 t7 → Q t7) →
            wpAny (model X.prog X.w) X.A (do bindName X.env n .none; unbindBehindTheSuite X.env n cpos) (fun _ t7 => Q t7) X.xe t6 := fun {σ6 H6 t6 Q} su6 hq => gone_ok (su6.unsuite iok) hN at_ loc hq
        refine wpAny_mono ((bodyOk a oe4 cls d (X.pn ++ pins) zc4 ⟨_, dat4⟩).run [] t5 _ H' _ su5 (yes rfl a na)) (fun out t6 end6 => ?_) fun _ _ z => z.elim
        cases out with
        | next => obtain ⟨_, _, su6, q6⟩ := end6; exact bare su6 fun _ inv7 => ⟨_, _, inv7, q6⟩
        | brk => obtain ⟨_, _, su6, q6⟩ := end6; exact bare su6 fun _ inv7 => ⟨_, _, inv7, q6⟩
        | cont => obtain ⟨_, _, su6, q6⟩ := end6; exact bare su6 fun _ inv7 => ⟨_, _, inv7, q6⟩
        | ret u => obtain ⟨_, _, _, su6, r6, q6⟩ := end6; exact bare su6 fun _ inv7 => ⟨_, _, _, inv7, r6, q6⟩
  · cases out with
    | next => obtain ⟨_, _, inv, q⟩ := fine; exact wpAny_execs_nil ⟨_, _, inv.ofTry iok, q⟩
    | brk => obtain ⟨_, _, inv, q⟩ := fine; exact ⟨_, _, inv.ofTry iok, q⟩
    | cont => obtain ⟨_, _, inv, q⟩ := fine; exact ⟨_, _, inv.ofTry iok, q⟩
    | ret u => obtain ⟨_, _, _, inv, r, q⟩ := fine; exact ⟨_, _, _, inv.ofTry iok, r, q⟩
end
end TM
namespace L2
open PySem PySem.Spec PyProof.Rows
/-! ### C(), an own error without a def of its own that makes it -/
theorem pmk_own0 {X : Cx} {C : Addr} {bmB : List Value} {B newId initId : String} {x : Str} {p pos : Pos} (F : ExcBaseFacts B newId initId bmB) (q : PySem.W.excIn X.K C bmB newId = true) (gC : X.mg x = some (.ref C))
    (kC : PySem.W.keepIn X.K (.ref C) = true) (r : Raises X (.ref C)) (hg : Gl X x) (hdb : (x == ("__debug__" : Str)) = false := by decide) :
    PMk X (.Call (.Name x p) [] [] pos) (fun _ H Q => Q (.ref C) none H) := by
  intro pins s σ H Q I h
  refine wpAny_Call_Name_kw (ld_glob I hg gC ?_ hdb)
  refine PySem.W.callWith_K0 I.kIn kC ?_
  show wpAny _ _ (call (.ref C) []) _ _ _
  obtain ⟨bm, N, nm, qn, bs, hdct, sn, sub, ab, col, dd, k0, k1, k2, k3, k5, mN, hC, hN, hni, T⟩ := exc_obj I.kIn q
  exact wpAny_call_exc_subT F T hC hN hni (fun h' e hm => mk_of I hm r h (I.hok.gone hm.new)) (Nat.zero_le _)
end L2
namespace L2
open PySem PySem.Spec PyProof.Rows
/-! ### a != b of two objects whose class has its own ==, and no own != -/
section
variable {M : Model} {prog : Program} {w : World} {A : Around} {E : Value → Shared → Prop} {s : Shared} {K : PySem.W.Frag} {x y C f : Addr} {ox : Obj} {od : Option Obj}
theorem ne_asked {args : List Value} {Q : Option Value → Shared → Prop} (X : K.In s.heap) (I : PySem.W.InstAt s.heap x ox C od) (hs : PySem.W.findIn K (.ref C) "__ne__" = some (some (.builtin "object.__ne__")))
    (h : wpAny M A (call (.builtin "object.__ne__") (.ref x :: args)) (fun v => Q (some v)) E s) : wpAny M A (callSpecialIfBound? (.ref x) "__ne__" args) Q E s := by
  simp only [callSpecialIfBound?, bindSpecialIfBound?]
  have tail : wpAny M A (call (.builtin "object.__ne__") ([.ref x] ++ args) >>= fun v => pure (some v)) Q E s := wpAny_bind (wpAny_mono h (fun _ _ q => wpAny_pure q) fun _ _ q => q)
  refine wpAny_holding (wpAny_bind (wpAny_bind (wpAny_bind (I.type.here ((PySem.W.looks_findIn X hs).here (wpAny_bind (wpAny_askSetting (wpAny_ite ?_))))))))
  split
  case isFalse => exact wpAny_tryCatch (wpAny_bind (wpAny_of_eq (F.cmp_object.ne.bind _) (wpAny_pure (by exact tail))))
  case isTrue => exact wpAny_bind (wpAny_of_eq (F.cmp_object.ne.bind _) (wpAny_pure (by exact tail)))
theorem ne_told {Q : Fin → Shared → Prop} (X : K.In s.heap) (I : PySem.W.InstAt s.heap x ox C od) (hu : A.units < cLine) (hs : PySem.W.findIn K (.ref C) "__eq__" = some (some (.ref f))) (hf : PySem.W.isFn K (.ref f) = true)
    (h : wpAny (model prog w) A (call (.ref f) [.ref x, .ref y]) (fun v s' => ∃ b, v = .bool b ∧ Q (.done (.ret (.bool (!b)))) s') E s) : wpAny (model prog w) A (Builtin.«object.__ne__» ⟨[.ref x, .ref y], []⟩) Q E s := by
  unfold Builtin.«object.__ne__»
  repeat (first
    | with_reducible refine wpAny_cRoomFor hu ?_
    | (refine wpAny_bind (m := callSpecialIfBound? (.ref x) (Str.ofString "__eq__") [.ref y]) (PySem.W.ifBound_K X I hs hf (wpAny_mono h (fun v s' hv => by
        obtain ⟨b, rfl, q⟩ := hv
        repeat (first | exact q | exact wpAny_pure q | (refine wpAny_bind (m := truthy (.bool _)) (wpAny_truthy_bool ?_)) | wp_step)) fun _ _ e => e)))
    | wp_step)
theorem ne_one {Q : Option Value → Shared → Prop} (X : K.In s.heap) (I : PySem.W.InstAt s.heap x ox C od) (hu : A.units + 1 < cLine) (hm : PySem.W.mroIn K C (.type "object") = some true) (hn : PySem.W.findIn K (.ref C) "__ne__" = some (some (.builtin "object.__ne__"))) (hs : PySem.W.findIn K (.ref C) "__eq__" = some (some (.ref f))) (hf : PySem.W.isFn K (.ref f) = true)
    (h : wpAny (model prog w) A.in1 (call (.ref f) [.ref x, .ref y]) (fun v s' => ∃ b, v = .bool b ∧ Q (some (.bool (!b))) s') E s) : wpAny (model prog w) A (tryCompare (.ref x) "__ne__" (.ref y)) Q E s := by
  simp only [tryCompare]
  refine wpAny_bind (ne_asked X I hn (wpAny_call (codeAny_call_builtin F.cmp_object.ne.plain F.cmpEntry_ne (PySem.W.check_slot F.cmpKind_ne F.cmpSplit_ne (I.type.andThen (PySem.W.looks_mroIn X hm)) (F.cmpArgs_ne _ _)
    (ne_told (A := A.in1) X I hu hs hf (wpAny_mono h (fun v s' hv => ?_) fun _ _ e => e))))))
  obtain ⟨b, rfl, q⟩ := hv
  first | exact ⟨b, rfl, wpAny_pure q⟩ | exact ⟨b, rfl, wpAny_pure (wpAny_pure q)⟩ | exact ⟨b, rfl, q⟩
theorem ne_rich {oy : Obj} {od' : Option Obj} {Q : Value → Shared → Prop} (X : K.In s.heap) (I : PySem.W.InstAt s.heap x ox C od) (J : PySem.W.InstAt s.heap y oy C od') (hu : A.units + 1 < cLine) (hm : PySem.W.mroIn K C (.type "object") = some true) (hn : PySem.W.findIn K (.ref C) "__ne__" = some (some (.builtin "object.__ne__"))) (hs : PySem.W.findIn K (.ref C) "__eq__" = some (some (.ref f))) (hf : PySem.W.isFn K (.ref f) = true)
    (h : wpAny (model prog w) A.in1 (call (.ref f) [.ref x, .ref y]) (fun v s' => ∃ b, v = .bool b ∧ Q (.bool (!b)) s') E s) : wpAny (model prog w) A (compareOp .NotEq (.ref x) (.ref y)) Q E s := by
  unfold compareOp richCompare
  simp only [oneThing_ref]
  refine wpAny_holding (wpAny_bind (wpAny_cRoomFor (Nat.lt_of_succ_lt hu) ?_))
  rw [cmpInfo_NotEq]
  dsimp only
  refine wpAny_bind (I.type.here (wpAny_bind (J.type.here ?_)))
  rw [show (Value.ref C != Value.ref C) = false from by simp]
  simp only [Bool.false_eq_true, if_false]
  refine wpAny_bind (wpAny_pure ?_)
  simp only [Bool.false_eq_true, if_false]
  refine wpAny_bind (ne_one X I hu hm hn hs hf (wpAny_mono h (fun v s' hv => ?_) fun _ _ e => e))
  obtain ⟨b, rfl, q⟩ := hv
  first | exact ⟨b, rfl, wpAny_pure q⟩ | exact ⟨b, rfl, wpAny_pure (wpAny_pure q)⟩
end
def rNeO (C : Addr) (sp : Sp) (E : XK) : R2 := fun x y H Q => ∃ (a b dx dy : Addr) (fs gs : List (Str × V)), x = .ref a ∧ y = .ref b ∧ H a = some (.ins C dx fs) ∧ H b = some (.ins C dy gs) ∧ sp [.ref a, .ref b] H (fun v H' => ∃ c, v = .bl c ∧ Q (.bl (!c)) H') E
theorem op_neO {X : Cx} {CX : CXT} {n : Nat} {C f : Addr} {fd : FuncData} {ps : List Str} {sp : Sp} {E : XK} (F : FnOk X.prog X.w X.K X.mg X.base CX n f fd ps sp) (hrm : Room (n + 1) X.A) (hu : X.A.units + 1 < cLine)
    (hm : PySem.W.mroIn X.K C (.type "object") = some true) (hn : PySem.W.findIn X.K (.ref C) "__ne__" = some (some (.builtin "object.__ne__"))) (hs : PySem.W.findIn X.K (.ref C) "__eq__" = some (some (.ref f))) (hf : PySem.W.isFn X.K (.ref f) = true) (hb : Binds X.K fd ps []) (hx : Passes CX X E) : OpR X (compareOp .NotEq) (rNeO C sp E) := by
  intro pins s σ H x y v u Q I rx ry h
  obtain ⟨a, b, dx, dy, fs, gs, rfl, rfl, ha, hb', hsp⟩ := h
  cases rx
  cases ry
  obtain ⟨mA, J, _⟩ := ins_get I.hok ha
  obtain ⟨mB, J', _⟩ := ins_get I.hok hb'
  obtain ⟨od, J, _⟩ := J.look
  obtain ⟨od', J', _⟩ := J'.look
  refine ne_rich I.kIn J J' hu hm hn hs hf (wpAny_mono (run_fn1 (E := fun _ => E) F hrm hb (pAt hx σ) I (us := [.ref a, .ref b]) (vs := [.ref a, .ref b]) (.cons rfl (.cons rfl .nil)) hsp) (fun r s' q => ?_) fun _ _ z => z)
  obtain ⟨w, H', I', rw', c, ew, q⟩ := q
  subst ew
  cases rw'
  exact ⟨c, rfl, .bl (!c), H', I', rfl, q⟩
end L2
namespace L2
open PySem PySem.Spec PyProof.Rows
/-- x = {..} on one line, x a local, the keys names or numbers -/
theorem ps_setDc {X : Cx} {i : Nat} {y : Str} {py : Pos} {kx vx tg iter : Expr} {ifs : List Expr} {scope : Scope} {own : List (Str × Nat)} {pos spos : Pos} {wi : TI} {g : TG} {tt : TT} {tk tv : TE} (hc : X.calm = true) (hN : X.N.Nodup) (hy : X.N[i]? = some y) (hyl : X.env.scope.names.lookup y = some .local)
    (hsw : swapsWith (.DictComp kx vx [⟨tg, iter, ifs, 0⟩] scope pos) (some (.Name y py)) spos.line X.env = pure true) (hi : PI X tg iter wi) (ok : BlkOk X.N X.env.scope scope own)
    (hg : ∀ s H C cl fp, PG (X.blk s H scope (compEnvC scope cl C X.env) fp) tg g) (ht : ∀ s H C cl fp, PTs (X.blk s H scope (compEnvC scope cl C X.env) fp) ifs tt)
    (hk : ∀ s H C cl fp, PE (X.blk s H scope (compEnvC scope cl C X.env) fp) kx tk) (he : ∀ s H C cl fp, PE (X.blk s H scope (compEnvC scope cl C X.env) fp) vx tv) (hs : ∀ x, foldedSetIterable iter X.env x = pure x := by intro _; rfl) :
    PS X (.Assign [.Name y py] (.DictComp kx vx [⟨tg, iter, ifs, 0⟩] scope pos) spos) (tAsg (tDc wi g tt tk tv (own.map (·.2))) (gName i)) := by
  refine ⟨fun pins s σ H D I h => ?_⟩
  rw [exec_Assign_Name_used _ _ _ _ hsw]
  refine wpAny_bind (wpAny_standAt (wpAny_bind ?_))
  show wpAny _ X.A (do let _ ← comprehension (.DictComp kx vx [⟨tg, iter, ifs, 0⟩] scope pos) scope X.env (firstIterPos [⟨tg, iter, ifs, 0⟩] pos) newDict false (eval iter X.env) (some (assign (.Name y py) X.env))) _ _ s
  have h : tDc wi g tt tk tv (own.map (·.2)) σ H (fun x H1 => gName i x σ H1 D.nx) := h
  refine wpAny_bind (thn (dc_core (Qf := fun _ s' => SP X pins D .next s') hc hN I hi ok hg ht hk he hs h fun L C s' m H' I' q hn f => ?_) fun _ s' hq => wpAny_pure (wpAny_pure hq))
  show wpAny _ _ (assign (.Name y py) X.env (.ref L)) _ _ _
  refine wpAny_assign_Name (store_ok2 (v := V.ref L) I' hN hy (.inl hyl) rfl (fun s2 I2 ⟨a, sb, ha⟩ => ?_) (.inr hyl))
  obtain ⟨f0, f1, f2, f3, f4, f5⟩ := f
  refine ⟨m, hn.sameBut sb (fun e => ha.elim (fun z => f1 (e.trans z)) fun z => f4 y a z e.symm), fun h3 sb3 => ?_⟩
  exact ⟨_, H', I2.turned (t' := s2.toks) (fun b o hb e => (sb3.2 b hb).trans e) f0 f1 f3 f4 f5, q⟩
end L2
namespace L2
open PySem PySem.Spec PyProof.Rows
/-- o.f, told without the block -/
theorem pe_fldK {X : Cx} {K : PySem.W.Frag} {e : Expr} {f : Str} {pos : Pos} {ta : TE} (hK : X.K = K) (he : PE X e ta) (hb : attributeBase e f X.env (eval e X.env) = eval e X.env) : PE X (.Attribute e f pos) (tFld K ta f) := by
  subst hK
  exact pe_fld he hb
end L2
namespace L2
open PySem PySem.Spec PyProof.Rows
/-! ### == of nested things: tuples, lists, dicts with names as keys, data at the leaves -/
inductive NEq (K : PySem.W.Frag) (H : Hp) : Nat → V → V → Bool → Prop
  | dat {n : Nat} {x y : V} {d e : PyData} : Dp K H x d → Dp K H y e → SeqAt.shaped d = true → SeqAt.shaped e = true → NEq K H n x y (PyData.eqv d e)
  | same {n : Nat} {p : Addr} : NEq K H n (.ref p) (.ref p) true
  | tup {n : Nat} {p q : Addr} {xs ys : List V} {e : Nat → Bool} : p ≠ q → H p = some (.tup xs) → H q = some (.tup ys) → (∀ (j : Nat) (x y : V), xs[j]? = some x → ys[j]? = some y → NEq K H n x y (e j)) →
      NEq K H (n + 1) (.ref p) (.ref q) ((List.range (min xs.length ys.length)).all e && xs.length == ys.length)
  | lst {n : Nat} {p q : Addr} {xs ys : List V} {e : Nat → Bool} : p ≠ q → H p = some (.lst xs) → H q = some (.lst ys) → xs.length = ys.length → (∀ (j : Nat) (x y : V), xs[j]? = some x → ys[j]? = some y → NEq K H n x y (e j)) →
      NEq K H (n + 1) (.ref p) (.ref q) ((List.range xs.length).all e)
  | lstL {n : Nat} {p q : Addr} {xs ys : List V} : p ≠ q → H p = some (.lst xs) → H q = some (.lst ys) → xs.length ≠ ys.length → NEq K H (n + 1) (.ref p) (.ref q) false
  | dct {n : Nat} {p q : Addr} {ks ls : List (Key × V)} {e : Key → Bool} : p ≠ q → H p = some (.dK ks) → H q = some (.dK ls) → (∀ (k : Key) (x y : V), (k, x) ∈ ks → valV ls k = some y → NEq K H n x y (e k)) →
      NEq K H (n + 1) (.ref p) (.ref q) (ks.length == ls.length && ks.all fun z => (valV ls z.1).isSome && e z.1)
theorem kv_all {ks ls : List (Key × V)} {va vb : List (Key × Value)} (rb : KV ls vb) (e : Key → Bool) (ra : KV ks va) : (va.all fun z => (valueAt vb z.1).isSome && e z.1) = ks.all fun z => (valV ls z.1).isSome && e z.1 := by
  unfold KV at ra
  induction ra with
  | nil => rfl
  | @cons p q ps qs h t ih =>
    rw [List.all_cons, List.all_cons, ih]
    have h1 : p.1 = q.1 := h.1
    have r := rb.val p.1
    rw [← h1]
    congr 1
    congr 1
    cases e1 : valV ls p.1 with
    | none =>
      rw [e1] at r
      cases e2 : valueAt vb p.1 with
      | none => rfl
      | some _ => rw [e2] at r; exact (show False from r).elim
    | some y =>
      rw [e1] at r
      obtain ⟨u, hu, _⟩ := r.some_of
      rw [hu]
      rfl
theorem kv_mem {ks : List (Key × V)} {va : List (Key × Value)} (ra : KV ks va) {k : Key} {u : Value} (h : (k, u) ∈ va) : ∃ x, (k, x) ∈ ks ∧ RelV x u := by
  unfold KV at ra
  induction ra with
  | nil => cases h
  | @cons p q ps qs hh t ih =>
    rcases List.mem_cons.mp h with e | hm
    · subst e
      obtain ⟨h1, h2⟩ := hh
      obtain ⟨pk, pv⟩ := p
      have h1 : pk = k := h1
      subst h1
      exact ⟨pv, List.mem_cons_self, h2⟩
    · obtain ⟨x, hx, r⟩ := ih hm
      exact ⟨x, List.mem_cons_of_mem _ hx, r⟩
section
variable {X : Cx} {pins : List (Addr × Obj)} {σ : L2.St} {H : Hp} {s : Shared}
theorem at_vals {xs : List V} {its : List Value} (r : Vals xs its) {j : Nat} (h : j < its.toArray.size) : ∃ x, xs[j]? = some x ∧ RelV x (its.toArray[j]'h) := by
  have hl : j < its.length := by simpa using h
  have hx : j < xs.length := by rw [Vals.length r]; exact hl
  obtain ⟨u, hu, ru⟩ := Vals.get r (List.getElem?_eq_getElem hx)
  rw [List.getElem?_eq_getElem hl] at hu
  cases hu
  exact ⟨_, List.getElem?_eq_getElem hx, by simpa using ru⟩
theorem dct_items (I : Inv X pins σ H s) {ks ls : List (Key × V)} {va vb : List (Key × Value)} {n : Nat} {e : Key → Bool} (ra : KV ks va) (rb : KV ls vb) (ih : ∀ (k : Key) (x y : V), (k, x) ∈ ks → valV ls k = some y → ∀ v u, RelV x v → RelV y u → PySem.W.EqTree X.prog X.w s n v u (e k)) :
    ∀ k v u, (k, v) ∈ va → valueAt vb k = some u → PySem.W.EqTree X.prog X.w s n v u (e k) := fun k v u hm hu => by
  obtain ⟨x, hx, rx⟩ := kv_mem ra hm
  have r := rb.val k
  rw [hu] at r
  cases e1 : valV ls k with
  | none => rw [e1] at r; exact (show False from r).elim
  | some y =>
    rw [e1] at r
    exact ih k x y hx e1 v u rx r
theorem NEq.tree (I : Inv X pins σ H s) {n : Nat} {x y : V} {b : Bool} (h : NEq X.K H n x y b) : ∀ v u, RelV x v → RelV y u → PySem.W.EqTree X.prog X.w s (n + 64) v u b := by
  induction h with
  | dat hd he sd se =>
    intro v u rx ry
    obtain ⟨as, r1⟩ := Dp.reads I _ _ _ hd rx
    obtain ⟨bs, r2⟩ := Dp.reads I _ _ _ he ry
    exact .leaf fun A hu => SeqAt.eqAt_reads _ _ A s v u as bs r1 r2 (SeqAt.canLay_of_shaped sd) (SeqAt.canLay_of_shaped se) (SeqAt.room_of_shaped sd (by omega))
  | same =>
    intro v u rx ry
    cases rx
    cases ry
    exact .same
  | tup hne hp hq _ ih =>
    intro v u rx ry
    cases rx
    cases ry
    obtain ⟨_, its, rv, ht⟩ := (show ObjOk X.prog X.w H s.heap _ (.tup _) from I.hok _ _ hp)
    obtain ⟨_, its', rv', ht'⟩ := (show ObjOk X.prog X.w H s.heap _ (.tup _) from I.hok _ _ hq)
    have t := PySem.W.EqTree.tuples (prog := X.prog) (w := X.w) (s := s) hne (show s.heap.IsTuple _ its.toArray from ht) (show s.heap.IsTuple _ its'.toArray from ht') (fun j h1 h2 => by
      obtain ⟨x, hx, r1⟩ := at_vals rv h1
      obtain ⟨y, hy, r2⟩ := at_vals rv' h2
      exact ih j x y hx hy _ _ r1 r2)
    rw [List.size_toArray, List.size_toArray, ← Vals.length rv, ← Vals.length rv'] at t
    rw [Nat.add_right_comm]
    exact t
  | lst hne hp hq hl _ ih =>
    intro v u rx ry
    cases rx
    cases ry
    obtain ⟨_, its, n1, rv, ht⟩ := (show ObjOk X.prog X.w H s.heap _ (.lst _) from I.hok _ _ hp)
    obtain ⟨_, its', n2, rv', ht'⟩ := (show ObjOk X.prog X.w H s.heap _ (.lst _) from I.hok _ _ hq)
    have t := PySem.W.EqTree.lists (prog := X.prog) (w := X.w) (s := s) hne (show s.heap.IsList _ its.toArray from ⟨_, ht, rfl, n1, rfl⟩) (show s.heap.IsList _ its'.toArray from ⟨_, ht', rfl, n2, rfl⟩) (by rw [List.size_toArray, List.size_toArray, ← Vals.length rv, ← Vals.length rv']; exact hl) (fun j h1 h2 => by
      obtain ⟨x, hx, r1⟩ := at_vals rv h1
      obtain ⟨y, hy, r2⟩ := at_vals rv' h2
      exact ih j x y hx hy _ _ r1 r2)
    rw [List.size_toArray, ← Vals.length rv] at t
    rw [Nat.add_right_comm]
    exact t
  | lstL hne hp hq hl =>
    intro v u rx ry
    cases rx
    cases ry
    obtain ⟨_, its, n1, rv, ht⟩ := (show ObjOk X.prog X.w H s.heap _ (.lst _) from I.hok _ _ hp)
    obtain ⟨_, its', n2, rv', ht'⟩ := (show ObjOk X.prog X.w H s.heap _ (.lst _) from I.hok _ _ hq)
    rw [Nat.add_right_comm]
    exact PySem.W.EqTree.listsLen hne (show s.heap.IsList _ its.toArray from ⟨_, ht, rfl, n1, rfl⟩) (show s.heap.IsList _ its'.toArray from ⟨_, ht', rfl, n2, rfl⟩) (by rw [List.size_toArray, List.size_toArray, ← Vals.length rv, ← Vals.length rv']; simpa using hl)
  | dct hne hp hq _ ih =>
    intro v u rx ry
    cases rx
    cases ry
    obtain ⟨_, ya, va, ra, da⟩ := (show ObjOk X.prog X.w H s.heap _ (.dK _) from I.hok _ _ hp)
    obtain ⟨_, yb, vb, rb, db⟩ := (show ObjOk X.prog X.w H s.heap _ (.dK _) from I.hok _ _ hq)
    have t := PySem.W.EqTree.dicts hne ya yb da db (dct_items I ra rb ih)
    rw [← ra.length, ← rb.length, kv_all rb _ ra] at t
    rw [Nat.add_right_comm]
    exact t
/-- at the top: data, tuples, lists or dicts -/
def rEqN (K : PySem.W.Frag) : R2 := fun x y H Q => ∃ (n : Nat) (b : Bool), n ≤ 8 ∧ (∀ p, x = .ref p → y ≠ .ref p) ∧ NEq K H n x y b ∧ Q (.bl b) H
theorem op_eqN (hu : X.A.units + 80 < cLine) : OpR X (compareOp .Eq) (rEqN X.K) := by
  intro pins s σ H x y v u Q I rx ry h
  obtain ⟨n, b, hn, hne, h, q⟩ := h
  cases h with
  | dat hd he sd se =>
    obtain ⟨as, r1⟩ := Dp.reads I _ x v hd rx
    obtain ⟨bs, r2⟩ := Dp.reads I _ y u he ry
    exact SeqAt.compareEq_shaped r1 r2 sd se (by omega) ⟨.bl _, H, I, rfl, q⟩
  | same => exact absurd rfl (hne _ rfl)
  | @tup n p p' xs ys e _ hp hq hh =>
    cases rx
    cases ry
    obtain ⟨_, its, rv, ht⟩ := (show ObjOk X.prog X.w H s.heap _ (.tup _) from I.hok _ _ hp)
    obtain ⟨_, its', rv', ht'⟩ := (show ObjOk X.prog X.w H s.heap _ (.tup _) from I.hok _ _ hq)
    refine PySem.W.eq_tuplesT (n := n + 64) (e := e) (show s.heap.IsTuple p its.toArray from ht) (show s.heap.IsTuple p' its'.toArray from ht') (fun j h1 h2 => ?_) (by omega) (fin_bl I q ?_)
    · obtain ⟨x, hx, r1⟩ := at_vals rv h1
      obtain ⟨y, hy, r2⟩ := at_vals rv' h2
      exact (hh j x y hx hy).tree I _ _ r1 r2
    · rw [List.size_toArray, List.size_toArray, ← Vals.length rv, ← Vals.length rv']
  | @lst n p p' xs ys e _ hp hq hl hh =>
    cases rx
    cases ry
    obtain ⟨_, its, n1, rv, ht⟩ := (show ObjOk X.prog X.w H s.heap _ (.lst _) from I.hok _ _ hp)
    obtain ⟨_, its', n2, rv', ht'⟩ := (show ObjOk X.prog X.w H s.heap _ (.lst _) from I.hok _ _ hq)
    refine PySem.W.eq_listsT (n := n + 64) (e := e) (show s.heap.IsList p its.toArray from ⟨_, ht, rfl, n1, rfl⟩) (show s.heap.IsList p' its'.toArray from ⟨_, ht', rfl, n2, rfl⟩) (by rw [List.size_toArray, List.size_toArray, ← Vals.length rv, ← Vals.length rv']; exact hl) (fun j h1 h2 => ?_) (by omega) (fin_bl I q ?_)
    · obtain ⟨x, hx, r1⟩ := at_vals rv h1
      obtain ⟨y, hy, r2⟩ := at_vals rv' h2
      exact (hh j x y hx hy).tree I _ _ r1 r2
    · rw [List.size_toArray, ← Vals.length rv]
  | lstL _ hp hq hl =>
    cases rx
    cases ry
    obtain ⟨_, its, n1, rv, ht⟩ := (show ObjOk X.prog X.w H s.heap _ (.lst _) from I.hok _ _ hp)
    obtain ⟨_, its', n2, rv', ht'⟩ := (show ObjOk X.prog X.w H s.heap _ (.lst _) from I.hok _ _ hq)
    exact (SeqAt.RcAt.lists_lengths (A := X.A) (show s.heap.IsList _ its.toArray from ⟨_, ht, rfl, n1, rfl⟩) (show s.heap.IsList _ its'.toArray from ⟨_, ht', rfl, n2, rfl⟩) (by rw [List.size_toArray, List.size_toArray, ← Vals.length rv, ← Vals.length rv']; simpa using hl) (by omega)) X.prog X.w _ _ (fin_bl I q rfl)
  | @dct n p p' ks ls e _ hp hq hh =>
    cases rx
    cases ry
    obtain ⟨_, ya, va, ra, da⟩ := (show ObjOk X.prog X.w H s.heap _ (.dK _) from I.hok _ _ hp)
    obtain ⟨_, yb, vb, rb, db⟩ := (show ObjOk X.prog X.w H s.heap _ (.dK _) from I.hok _ _ hq)
    refine PySem.W.eq_dictsT (n := n + 64) (e := e) ya yb da db (dct_items I ra rb fun k x y h1 h2 => (hh k x y h1 h2).tree I) (by omega) (fin_bl I q ?_)
    rw [← ra.length, ← rb.length, kv_all rb _ ra]
end
end L2
namespace L2
open PySem PySem.Spec PyProof.Rows
/-- isinstance(e, c), e the exception that the suite holds, made with no dict -/
theorem call_isX0 {X : Cx} {a D : Addr} {cls : Value} {oe : Obj} {d : Option Addr} {pn : List (Addr × Obj)} (C : ExcC X.K D) (hz : Zc cls d oe) (hf : ∃ vs, oe.data = .fields vs) :
    CallR (X.suite a ((a, oe) :: pn)) (.builtin "isinstance") (fun xs H Q => ∃ (c : V) (cv : Value) (b : Bool), cls = .ref D ∧ d = none ∧ xs = [.ref a, c] ∧ (∀ u, RelV c u → u = cv) ∧ PySem.W.kitOne X.K (.ref D) cv = some b ∧ Q (.bl b) H) := by
  intro pins s σ H xs us Q I r h
  obtain ⟨c, cv, b, rfl, rfl, rfl, hcv, e, q⟩ := h
  cases r with
  | cons rx rr =>
    cases rr with
    | cons rt rr =>
      cases rr
      cases rx
      have ec := hcv _ rt
      subst ec
      obtain ⟨hget, _⟩ := I.pin (a, oe) (List.mem_append.mpr (.inl List.mem_cons_self))
      obtain ⟨vs, hv⟩ := hf
      have J : PySem.W.InstAt s.heap a oe D none := ⟨hget, hz.1, by unfold PySem.W.notCls; rw [hv] <;> rfl, by rw [hz.2]; trivial⟩
      have hcl : (PySem.W.clsIn X.K D).isSome = true := by
        obtain ⟨cdD, hcD, _⟩ := PySem.W.any_some C.hd
        rw [hcD]
        rfl
      exact PySem.W.kia_one (PySem.W.kitx_exc hcl C.hg C.hk C.hs C.ha C.hn C.ht C.hm) I.kIn J e (fun z => nomatch z) fun tk => ⟨.bl b, H, I.kept (t' := tk) fun _ _ z => z, rfl, q⟩
end L2
namespace My
open PySem PySem.Spec PyProof.Rows L2
def topS (i : Nat) : Stmt := PySem.Challenge.pw_cappedcalls_k36_unions_at_the_limit.main.body.getD i (.Pass ⟨0, 0, 0, 0⟩)
abbrev s_UnknownName___init__ : Stmt := inClass (topS 3) 0
theorem sc_UnknownName___init__ : FnScope ["self", "name"] ["self", "name"] (defScope s_UnknownName___init__) := ⟨rfl, rfl, rfl, by decide +kernel, rfl, by decide +kernel, by decide +kernel⟩
abbrev s_InvalidStore___init__ : Stmt := inClass (topS 7) 0
theorem sc_InvalidStore___init__ : FnScope ["self", "table", "at"] ["self", "table", "at"] (defScope s_InvalidStore___init__) := ⟨rfl, rfl, rfl, by decide +kernel, rfl, by decide +kernel, by decide +kernel⟩
abbrev s_LimitExceeded___init__ : Stmt := inClass (topS 5) 0
theorem sc_LimitExceeded___init__ : FnScope ["self", "limit"] ["self", "limit"] (defScope s_LimitExceeded___init__) := ⟨rfl, rfl, rfl, by decide +kernel, rfl, by decide +kernel, by decide +kernel⟩
abbrev s_is_plain_int : Stmt := topS 11
theorem sc_is_plain_int : FnScope ["thing"] ["thing"] (defScope s_is_plain_int) := ⟨rfl, rfl, rfl, by decide +kernel, rfl, by decide +kernel, by decide +kernel⟩
abbrev s_is_word : Stmt := topS 12
theorem sc_is_word : FnScope ["thing", "letter"] ["thing"] (defScope s_is_word) := ⟨rfl, rfl, rfl, by decide +kernel, rfl, by decide +kernel, by decide +kernel⟩
abbrev s_is_value : Stmt := topS 13
theorem sc_is_value : FnScope ["thing"] ["thing"] (defScope s_is_value) := ⟨rfl, rfl, rfl, by decide +kernel, rfl, by decide +kernel, by decide +kernel⟩
abbrev s_are_values : Stmt := topS 14
theorem sc_are_values : FnScope ["thing", "many", "part"] ["thing", "many"] (defScope s_are_values) := ⟨rfl, rfl, rfl, by decide +kernel, rfl, by decide +kernel, by decide +kernel⟩
abbrev s_columns_of : Stmt := topS 15
theorem sc_columns_of : FnScope ["row", "columns", "column"] ["row", "columns"] (defScope s_columns_of) := ⟨rfl, rfl, rfl, by decide +kernel, rfl, by decide +kernel, by decide +kernel⟩
abbrev s_row_key : Stmt := topS 16
theorem sc_row_key : FnScope ["row", "part"] ["row"] (defScope s_row_key) := ⟨rfl, rfl, rfl, by decide +kernel, rfl, by decide +kernel, by decide +kernel⟩
abbrev s_sorted_rows : Stmt := topS 17
theorem sc_sorted_rows : FnScope ["rows", "different", "row"] ["rows"] (defScope s_sorted_rows) := ⟨rfl, rfl, rfl, by decide +kernel, rfl, by decide +kernel, by decide +kernel⟩
abbrev s__is_count : Stmt := topS 23
theorem sc__is_count : FnScope ["thing", "most"] ["thing", "most"] (defScope s__is_count) := ⟨rfl, rfl, rfl, by decide +kernel, rfl, by decide +kernel, by decide +kernel⟩
abbrev s__is_name_in : Stmt := topS 24
theorem sc__is_name_in : FnScope ["thing", "names"] ["thing", "names"] (defScope s__is_name_in) := ⟨rfl, rfl, rfl, by decide +kernel, rfl, by decide +kernel, by decide +kernel⟩
abbrev s__are_columns : Stmt := topS 25
theorem sc__are_columns : FnScope ["thing", "width", "least", "column"] ["thing", "width"] (defScope s__are_columns) := ⟨rfl, rfl, rfl, by decide +kernel, rfl, by decide +kernel, by decide +kernel⟩
abbrev s__is_key : Stmt := topS 26
theorem sc__is_key : FnScope ["thing", "width"] ["thing", "width"] (defScope s__is_key) := ⟨rfl, rfl, rfl, by decide +kernel, rfl, by decide +kernel, by decide +kernel⟩
abbrev s__is_service : Stmt := topS 27
theorem sc__is_service : FnScope ["thing", "tables", "table", "given", "cap"] ["thing", "tables"] (defScope s__is_service) := ⟨rfl, rfl, rfl, by decide +kernel, rfl, by decide +kernel, by decide +kernel⟩
abbrev s__is_whole_service : Stmt := topS 28
theorem sc__is_whole_service : FnScope ["service", "tables", "keys", "table", "given", "cap", "column"] ["service", "tables", "keys"] (defScope s__is_whole_service) := ⟨rfl, rfl, rfl, by decide +kernel, rfl, by decide +kernel, by decide +kernel⟩
abbrev s__check_tables : Stmt := topS 29
theorem sc__check_tables : FnScope ["tables", "name"] ["tables"] (defScope s__check_tables) := ⟨rfl, rfl, rfl, by decide +kernel, rfl, by decide +kernel, by decide +kernel⟩
abbrev s__check_keys : Stmt := topS 30
theorem sc__check_keys : FnScope ["keys", "tables", "name"] ["keys", "tables"] (defScope s__check_keys) := ⟨rfl, rfl, rfl, by decide +kernel, rfl, by decide +kernel, by decide +kernel⟩
abbrev s__check_services : Stmt := topS 31
theorem sc__check_services : FnScope ["services", "tables", "name"] ["services", "tables"] (defScope s__check_services) := ⟨rfl, rfl, rfl, by decide +kernel, rfl, by decide +kernel, by decide +kernel⟩
abbrev s__check_capped : Stmt := topS 32
theorem sc__check_capped : FnScope ["services", "tables", "keys", "capped_tables", "name", "service"] ["services", "tables", "keys"] (defScope s__check_capped) := ⟨rfl, rfl, rfl, by decide +kernel, rfl, by decide +kernel, by decide +kernel⟩
abbrev s__copied : Stmt := topS 33
theorem sc__copied : FnScope ["things", "name"] ["things"] (defScope s__copied) := ⟨rfl, rfl, rfl, by decide +kernel, rfl, by decide +kernel, by decide +kernel⟩
abbrev s_Schema___init__ : Stmt := inClass (topS 34) 0
theorem sc_Schema___init__ : FnScope ["self", "tables", "keys", "services"] ["self", "tables", "keys", "services"] (defScope s_Schema___init__) := ⟨rfl, rfl, rfl, by decide +kernel, rfl, by decide +kernel, by decide +kernel⟩
abbrev s_Schema_tables : Stmt := inClass (topS 34) 1
theorem sc_Schema_tables : FnScope ["self"] ["self"] (defScope s_Schema_tables) := ⟨rfl, rfl, rfl, by decide +kernel, rfl, by decide +kernel, by decide +kernel⟩
abbrev s_Schema_services : Stmt := inClass (topS 34) 3
theorem sc_Schema_services : FnScope ["self"] ["self"] (defScope s_Schema_services) := ⟨rfl, rfl, rfl, by decide +kernel, rfl, by decide +kernel, by decide +kernel⟩
abbrev s_Schema___eq__ : Stmt := inClass (topS 34) 4
theorem sc_Schema___eq__ : FnScope ["self", "other"] ["self", "other"] (defScope s_Schema___eq__) := ⟨rfl, rfl, rfl, by decide +kernel, rfl, by decide +kernel, by decide +kernel⟩
abbrev s_Schema_table_names : Stmt := inClass (topS 34) 5
theorem sc_Schema_table_names : FnScope ["self"] ["self"] (defScope s_Schema_table_names) := ⟨rfl, rfl, rfl, by decide +kernel, rfl, by decide +kernel, by decide +kernel⟩
abbrev s_Schema_width_of : Stmt := inClass (topS 34) 8
theorem sc_Schema_width_of : FnScope ["self", "table"] ["self", "table"] (defScope s_Schema_width_of) := ⟨rfl, rfl, rfl, by decide +kernel, rfl, by decide +kernel, by decide +kernel⟩
abbrev s_Schema_key_of : Stmt := inClass (topS 34) 9
theorem sc_Schema_key_of : FnScope ["self", "table"] ["self", "table"] (defScope s_Schema_key_of) := ⟨rfl, rfl, rfl, by decide +kernel, rfl, by decide +kernel, by decide +kernel⟩
abbrev s_check_same : Stmt := topS 35
theorem sc_check_same : FnScope ["one", "other"] ["one", "other"] (defScope s_check_same) := ⟨rfl, rfl, rfl, by decide +kernel, rfl, by decide +kernel, by decide +kernel⟩
abbrev s__check_table : Stmt := topS 38
theorem sc__check_table : FnScope ["schema", "table", "rows", "width", "key", "columns", "seen", "at", "row"] ["schema", "table", "rows"] (defScope s__check_table) := ⟨rfl, rfl, rfl, by decide +kernel, rfl, by decide +kernel, by decide +kernel⟩
abbrev s__by_given : Stmt := topS 39
theorem sc__by_given : FnScope ["rows", "given", "found", "row"] ["rows", "given"] (defScope s__by_given) := ⟨rfl, rfl, rfl, by decide +kernel, rfl, by decide +kernel, by decide +kernel⟩
abbrev s_Store___init__ : Stmt := inClass (topS 40) 0
theorem sc_Store___init__ : FnScope ["self", "schema", "rows", "table", "ordered", "row", "name", "given", "_"] ["self", "schema", "rows"] (defScope s_Store___init__) := ⟨rfl, rfl, rfl, by decide +kernel, rfl, by decide +kernel, by decide +kernel⟩
abbrev s_Store___getitem__ : Stmt := inClass (topS 40) 1
theorem sc_Store___getitem__ : FnScope ["self", "table"] ["self", "table"] (defScope s_Store___getitem__) := ⟨rfl, rfl, rfl, by decide +kernel, rfl, by decide +kernel, by decide +kernel⟩
abbrev s_Store___contains__ : Stmt := inClass (topS 40) 3
theorem sc_Store___contains__ : FnScope ["self", "place", "table", "row"] ["self", "place"] (defScope s_Store___contains__) := ⟨rfl, rfl, rfl, by decide +kernel, rfl, by decide +kernel, by decide +kernel⟩
abbrev s_Store___len__ : Stmt := inClass (topS 40) 4
theorem sc_Store___len__ : FnScope ["self", "rows", "row"] ["self"] (defScope s_Store___len__) := ⟨rfl, rfl, rfl, by decide +kernel, rfl, by decide +kernel, by decide +kernel⟩
abbrev s_Store___or__ : Stmt := inClass (topS 40) 6
theorem sc_Store___or__ : FnScope ["self", "other", "rows", "table", "row"] ["self", "other"] (defScope s_Store___or__) := ⟨rfl, rfl, rfl, by decide +kernel, rfl, by decide +kernel, by decide +kernel⟩
abbrev s__law_pool : Stmt := topS 42
theorem sc__law_pool : FnScope ["_law_script", "_law_cell"] ["_law_script"] (defScope s__law_pool) := ⟨rfl, rfl, rfl, by decide +kernel, rfl, by decide +kernel, by decide +kernel⟩
abbrev s__law_mixed : Stmt := topS 43
theorem sc__law_mixed : FnScope ["_law_seed", "_law_count", "_law_number"] ["_law_seed", "_law_count"] (defScope s__law_mixed) := ⟨rfl, rfl, rfl, by decide +kernel, rfl, by decide +kernel, by decide +kernel⟩
abbrev s__law_draw : Stmt := topS 44
theorem sc__law_draw : FnScope ["_law_pool_here", "_law_many", "_law_cell", "_law_found"] ["_law_pool_here", "_law_many"] (defScope s__law_draw) := ⟨rfl, rfl, rfl, by decide +kernel, rfl, by decide +kernel, by decide +kernel⟩
abbrev s__law_rank : Stmt := topS 45
theorem sc__law_rank : FnScope ["_law_row", "_law_part"] ["_law_row"] (defScope s__law_rank) := ⟨rfl, rfl, rfl, by decide +kernel, rfl, by decide +kernel, by decide +kernel⟩
abbrev s__law_sorted : Stmt := topS 46
theorem sc__law_sorted : FnScope ["_law_rows", "_law_found", "_law_row"] ["_law_rows"] (defScope s__law_sorted) := ⟨rfl, rfl, rfl, by decide +kernel, rfl, by decide +kernel, by decide +kernel⟩
abbrev s__law_lines : Stmt := topS 47
theorem sc__law_lines : FnScope ["_law_width", "_law_first", "_law_last", "_law_k", "_law_at"] ["_law_width", "_law_first", "_law_last"] (defScope s__law_lines) := ⟨rfl, rfl, rfl, by decide +kernel, rfl, by decide +kernel, by decide +kernel⟩
abbrev s__law_union : Stmt := topS 48
theorem sc__law_union : FnScope ["_law_one", "_law_other", "_law_told", "_law_both", "e"] ["_law_one", "_law_other"] (defScope s__law_union) := ⟨rfl, rfl, rfl, by decide +kernel, rfl, by decide +kernel, by decide +kernel⟩
abbrev s_law : Stmt := topS 49
theorem sc_law : FnScope ["_law_script", "_law_pool_here", "_law_clash", "_law_widths", "_law_many", "_law_left", "_law_more", "_law_keys", "_law_one", "_law_first", "_law_last", "_law_other", "_law_schema", "_law_right", "_law_rows", "_law_new", "_law_due", "_law_k", "_law_at", "_law_row"] ["_law_script"] (defScope s_law) := ⟨rfl, rfl, rfl, by decide +kernel, rfl, by decide +kernel, by decide +kernel⟩
/-- what the top has written, as the walks ask for it -/
structure Txt (K : PySem.W.Frag) (mg : Str → Option Value) (a : Nat → Addr) (d : Nat → FuncData) : Prop where
  F1300 : Fun K "__init__" "UnknownName.__init__" s_UnknownName___init__ (a 1300) (d 1300)
  b1300 : Binds K (d 1300) ["self", "name"] []
  F1700 : Fun K "__init__" "InvalidStore.__init__" s_InvalidStore___init__ (a 1700) (d 1700)
  b1700 : Binds K (d 1700) ["self", "table", "at"] []
  F1500 : Fun K "__init__" "LimitExceeded.__init__" s_LimitExceeded___init__ (a 1500) (d 1500)
  b1500 : Binds K (d 1500) ["self", "limit"] []
  F11 : Fun K "is_plain_int" "is_plain_int" s_is_plain_int (a 11) (d 11)
  b11 : Binds K (d 11) ["thing"] []
  g11 : mg "is_plain_int" = some (.ref (a 11))
  F12 : Fun K "is_word" "is_word" s_is_word (a 12) (d 12)
  b12 : Binds K (d 12) ["thing"] []
  g12 : mg "is_word" = some (.ref (a 12))
  F13 : Fun K "is_value" "is_value" s_is_value (a 13) (d 13)
  b13 : Binds K (d 13) ["thing"] []
  g13 : mg "is_value" = some (.ref (a 13))
  F14 : Fun K "are_values" "are_values" s_are_values (a 14) (d 14)
  b14 : Binds K (d 14) ["thing", "many"] []
  g14 : mg "are_values" = some (.ref (a 14))
  F15 : Fun K "columns_of" "columns_of" s_columns_of (a 15) (d 15)
  b15 : Binds K (d 15) ["row", "columns"] []
  g15 : mg "columns_of" = some (.ref (a 15))
  F16 : Fun K "row_key" "row_key" s_row_key (a 16) (d 16)
  b16 : Binds K (d 16) ["row"] []
  g16 : mg "row_key" = some (.ref (a 16))
  F17 : Fun K "sorted_rows" "sorted_rows" s_sorted_rows (a 17) (d 17)
  b17 : Binds K (d 17) ["rows"] []
  g17 : mg "sorted_rows" = some (.ref (a 17))
  F23 : Fun K "_is_count" "_is_count" s__is_count (a 23) (d 23)
  b23 : Binds K (d 23) ["thing", "most"] []
  g23 : mg "_is_count" = some (.ref (a 23))
  F24 : Fun K "_is_name_in" "_is_name_in" s__is_name_in (a 24) (d 24)
  b24 : Binds K (d 24) ["thing", "names"] []
  g24 : mg "_is_name_in" = some (.ref (a 24))
  F25 : Fun K "_are_columns" "_are_columns" s__are_columns (a 25) (d 25)
  b25 : Binds K (d 25) ["thing", "width"] []
  g25 : mg "_are_columns" = some (.ref (a 25))
  F26 : Fun K "_is_key" "_is_key" s__is_key (a 26) (d 26)
  b26 : Binds K (d 26) ["thing", "width"] []
  g26 : mg "_is_key" = some (.ref (a 26))
  F27 : Fun K "_is_service" "_is_service" s__is_service (a 27) (d 27)
  b27 : Binds K (d 27) ["thing", "tables"] []
  g27 : mg "_is_service" = some (.ref (a 27))
  F28 : Fun K "_is_whole_service" "_is_whole_service" s__is_whole_service (a 28) (d 28)
  b28 : Binds K (d 28) ["service", "tables", "keys"] []
  g28 : mg "_is_whole_service" = some (.ref (a 28))
  F29 : Fun K "_check_tables" "_check_tables" s__check_tables (a 29) (d 29)
  b29 : Binds K (d 29) ["tables"] []
  g29 : mg "_check_tables" = some (.ref (a 29))
  F30 : Fun K "_check_keys" "_check_keys" s__check_keys (a 30) (d 30)
  b30 : Binds K (d 30) ["keys", "tables"] []
  g30 : mg "_check_keys" = some (.ref (a 30))
  F31 : Fun K "_check_services" "_check_services" s__check_services (a 31) (d 31)
  b31 : Binds K (d 31) ["services", "tables"] []
  g31 : mg "_check_services" = some (.ref (a 31))
  F32 : Fun K "_check_capped" "_check_capped" s__check_capped (a 32) (d 32)
  b32 : Binds K (d 32) ["services", "tables", "keys"] []
  g32 : mg "_check_capped" = some (.ref (a 32))
  F33 : Fun K "_copied" "_copied" s__copied (a 33) (d 33)
  b33 : Binds K (d 33) ["things"] []
  g33 : mg "_copied" = some (.ref (a 33))
  F4400 : Fun K "__init__" "Schema.__init__" s_Schema___init__ (a 4400) (d 4400)
  b4400 : Binds K (d 4400) ["self", "tables", "keys", "services"] []
  F4401 : Fun K "tables" "Schema.tables" s_Schema_tables (a 4401) (d 4401)
  b4401 : Binds K (d 4401) ["self"] []
  F4403 : Fun K "services" "Schema.services" s_Schema_services (a 4403) (d 4403)
  b4403 : Binds K (d 4403) ["self"] []
  F4404 : Fun K "__eq__" "Schema.__eq__" s_Schema___eq__ (a 4404) (d 4404)
  b4404 : Binds K (d 4404) ["self", "other"] []
  F4405 : Fun K "table_names" "Schema.table_names" s_Schema_table_names (a 4405) (d 4405)
  b4405 : Binds K (d 4405) ["self"] []
  F4408 : Fun K "width_of" "Schema.width_of" s_Schema_width_of (a 4408) (d 4408)
  b4408 : Binds K (d 4408) ["self", "table"] []
  F4409 : Fun K "key_of" "Schema.key_of" s_Schema_key_of (a 4409) (d 4409)
  b4409 : Binds K (d 4409) ["self", "table"] []
  F35 : Fun K "check_same" "check_same" s_check_same (a 35) (d 35)
  b35 : Binds K (d 35) ["one", "other"] []
  g35 : mg "check_same" = some (.ref (a 35))
  F38 : Fun K "_check_table" "_check_table" s__check_table (a 38) (d 38)
  b38 : Binds K (d 38) ["schema", "table", "rows"] []
  g38 : mg "_check_table" = some (.ref (a 38))
  F39 : Fun K "_by_given" "_by_given" s__by_given (a 39) (d 39)
  b39 : Binds K (d 39) ["rows", "given"] []
  g39 : mg "_by_given" = some (.ref (a 39))
  F5000 : Fun K "__init__" "Store.__init__" s_Store___init__ (a 5000) (d 5000)
  b5000 : Binds K (d 5000) ["self", "schema", "rows"] []
  F5001 : Fun K "__getitem__" "Store.__getitem__" s_Store___getitem__ (a 5001) (d 5001)
  b5001 : Binds K (d 5001) ["self", "table"] []
  F5003 : Fun K "__contains__" "Store.__contains__" s_Store___contains__ (a 5003) (d 5003)
  b5003 : Binds K (d 5003) ["self", "place"] []
  F5004 : Fun K "__len__" "Store.__len__" s_Store___len__ (a 5004) (d 5004)
  b5004 : Binds K (d 5004) ["self"] []
  F5006 : Fun K "__or__" "Store.__or__" s_Store___or__ (a 5006) (d 5006)
  b5006 : Binds K (d 5006) ["self", "other"] []
  F42 : Fun K "_law_pool" "_law_pool" s__law_pool (a 42) (d 42)
  b42 : Binds K (d 42) ["_law_script"] []
  g42 : mg "_law_pool" = some (.ref (a 42))
  F43 : Fun K "_law_mixed" "_law_mixed" s__law_mixed (a 43) (d 43)
  b43 : Binds K (d 43) ["_law_seed", "_law_count"] []
  g43 : mg "_law_mixed" = some (.ref (a 43))
  F44 : Fun K "_law_draw" "_law_draw" s__law_draw (a 44) (d 44)
  b44 : Binds K (d 44) ["_law_pool_here", "_law_many"] []
  g44 : mg "_law_draw" = some (.ref (a 44))
  F45 : Fun K "_law_rank" "_law_rank" s__law_rank (a 45) (d 45)
  b45 : Binds K (d 45) ["_law_row"] []
  g45 : mg "_law_rank" = some (.ref (a 45))
  F46 : Fun K "_law_sorted" "_law_sorted" s__law_sorted (a 46) (d 46)
  b46 : Binds K (d 46) ["_law_rows"] []
  g46 : mg "_law_sorted" = some (.ref (a 46))
  F47 : Fun K "_law_lines" "_law_lines" s__law_lines (a 47) (d 47)
  b47 : Binds K (d 47) ["_law_width", "_law_first", "_law_last"] []
  g47 : mg "_law_lines" = some (.ref (a 47))
  F48 : Fun K "_law_union" "_law_union" s__law_union (a 48) (d 48)
  b48 : Binds K (d 48) ["_law_one", "_law_other"] []
  g48 : mg "_law_union" = some (.ref (a 48))
  F49 : Fun K "law" "law" s_law (a 49) (d 49)
  b49 : Binds K (d 49) ["_law_script"] []
  g49 : mg "law" = some (.ref (a 49))
  cg_2 : mg "CappedError" = some (.ref (a 2))
  x_2 : OexC K (a 2)
  xf_2 : XfC K (a 2)
  xi_2 : ExcC K (a 2)
  cg_3 : mg "UnknownName" = some (.ref (a 3))
  x_3 : OexC K (a 3)
  xf_3 : XfC K (a 3)
  xi_3 : ExcC K (a 3)
  in_3 : PySem.W.findIn K (.ref (a 3)) "__init__" = some (some (.ref (a 1300)))
  ti_3 : PySem.W.typeIn K (.ref (a 1300)) = some (.type "function")
  no_3_name : PySem.W.findIn K (.ref (a 3)) "name" = some none
  cg_4 : mg "SchemaMismatch" = some (.ref (a 4))
  x_4 : OexC K (a 4)
  xf_4 : XfC K (a 4)
  xi_4 : ExcC K (a 4)
  qx_4 : PySem.W.excIn K (a 4) [.type "ValueError", .type "Exception", .type "BaseException", .type "object"] "ValueError.__new__" = true
  kq_4 : PySem.W.keepIn K (.ref (a 4)) = true
  bq_4 : PySem.W.subIn K (.ref (a 4)) (.type "BaseException") = some true
  tq_4 : PySem.W.typeIn K (.ref (a 4)) = some (.type "type")
  cg_7 : mg "InvalidStore" = some (.ref (a 7))
  x_7 : OexC K (a 7)
  xf_7 : XfC K (a 7)
  xi_7 : ExcC K (a 7)
  in_7 : PySem.W.findIn K (.ref (a 7)) "__init__" = some (some (.ref (a 1700)))
  ti_7 : PySem.W.typeIn K (.ref (a 1700)) = some (.type "function")
  no_7_table : PySem.W.findIn K (.ref (a 7)) "table" = some none
  no_7_at : PySem.W.findIn K (.ref (a 7)) "at" = some none
  cg_5 : mg "LimitExceeded" = some (.ref (a 5))
  x_5 : OexC K (a 5)
  xf_5 : XfC K (a 5)
  xi_5 : ExcC K (a 5)
  in_5 : PySem.W.findIn K (.ref (a 5)) "__init__" = some (some (.ref (a 1500)))
  ti_5 : PySem.W.typeIn K (.ref (a 1500)) = some (.type "function")
  no_5_limit : PySem.W.findIn K (.ref (a 5)) "limit" = some none
  cg_34 : mg "Schema" = some (.ref (a 34))
  cl_34 : Cls K (a 34)
  M_34 : Mk K (a 34) (a 4400)
  no_34__tables : NoAttr K (a 34) "_tables"
  no_34__keys : NoAttr K (a 34) "_keys"
  no_34__services : NoAttr K (a 34) "_services"
  cg_40 : mg "Store" = some (.ref (a 40))
  cl_40 : Cls K (a 40)
  M_40 : Mk K (a 40) (a 5000)
  no_40_schema : NoAttr K (a 40) "schema"
  no_40__rows : NoAttr K (a 40) "_rows"
  no_40__fitting : NoAttr K (a 40) "_fitting"
  ic_34 : C8.InsC K (a 34)
  ne_34 : PySem.W.findIn K (.ref (a 34)) "__ne__" = some (some (.builtin "object.__ne__"))
  om_34 : PySem.W.mroIn K (a 34) (.type "object") = some true
  exm_7_7 : PySem.W.exmOne K (.ref (a 7)) (.ref (a 7)) = some true
  exm_5_5 : PySem.W.exmOne K (.ref (a 5)) (.ref (a 5)) = some true
  exf_5_7 : PySem.W.exmOne K (.ref (a 5)) (.ref (a 7)) = some false
  p_4401 : PropOf K (a 34) "tables" (a 54401) (a 4401)
  p_4403 : PropOf K (a 34) "services" (a 54403) (a 4403)
  m_4404 : Meth K (a 34) "__eq__" (a 4404)
  m_4405 : Meth K (a 34) "table_names" (a 4405)
  m_4408 : Meth K (a 34) "width_of" (a 4408)
  m_4409 : Meth K (a 34) "key_of" (a 4409)
  m_5001 : Meth K (a 40) "__getitem__" (a 5001)
  sp_5001 : Spec1 K (a 40) "__getitem__" (a 5001)
  m_5003 : Meth K (a 40) "__contains__" (a 5003)
  sp_5003 : Spec1 K (a 40) "__contains__" (a 5003)
  m_5004 : Meth K (a 40) "__len__" (a 5004)
  sp_5004 : Spec1 K (a 40) "__len__" (a 5004)
  m_5006 : Meth K (a 40) "__or__" (a 5006)
  sp_5006 : Spec1 K (a 40) "__or__" (a 5006)
  sf_40 : PySem.W.selfFirst K (a 40) = true
  z_abs : mg "abs" = none
  z_all : mg "all" = none
  z_bool : mg "bool" = none
  z_dict : mg "dict" = none
  z_enumerate : mg "enumerate" = none
  z_int : mg "int" = none
  z_isinstance : mg "isinstance" = none
  z_len : mg "len" = none
  z_list : mg "list" = none
  z_range : mg "range" = none
  z_sorted : mg "sorted" = none
  z_str : mg "str" = none
  z_sum : mg "sum" = none
  z_tuple : mg "tuple" = none
  c_LONGEST_WORD : ∃ t, mg "LONGEST_WORD" = some (.int (8) t)
  c_GREATEST_VALUE : ∃ t, mg "GREATEST_VALUE" = some (.int (999999999999999999999999999999) t)
  c_MOST_TABLES : ∃ t, mg "MOST_TABLES" = some (.int (5) t)
  c_MOST_WIDTH : ∃ t, mg "MOST_WIDTH" = some (.int (4) t)
  c_MOST_SERVICES : ∃ t, mg "MOST_SERVICES" = some (.int (8) t)
  c_MOST_CAP : ∃ t, mg "MOST_CAP" = some (.int (4) t)
  c_MOST_ROWS : ∃ t, mg "MOST_ROWS" = some (.int (400) t)
end My
namespace My
open PySem PySem.Spec PyProof.Rows L2
local macro_rules | `(tactic| walk_at "g") => `(tactic| first
  | refine ⟨_, rfl, ?_⟩
  | refine ⟨_, _, rfl, rfl, .inl ⟨by decide, by decide⟩, ?_⟩
  | refine ⟨_, _, rfl, rfl, .inr ⟨by decide, by decide⟩, ?_⟩
  | refine ⟨_, _, rfl, rfl, .inl ⟨by omega, by omega⟩, ?_⟩
  | refine ⟨_, _, rfl, rfl, ⟨by decide, by decide +kernel⟩, ?_⟩
  | refine ⟨_, _, rfl, rfl, ⟨by decide, by decide, by decide⟩, ?_⟩
  | refine ⟨_, _, rfl, rfl, (by show (0 : Int) < _; decide), ?_⟩
  | refine ⟨_, _, rfl, rfl, ?_⟩
  | refine .inl ⟨_, rfl, ?_⟩
  | refine ⟨rfl, _, rfl, ?_⟩)
local macro_rules | `(tactic| walk_at "gg") => `(tactic| repeat walk_at "g")
/-! ### the pool of draws: a list of ints at an address that every draw changes -/
def PoolAt (H : Hp) (a : Addr) : Prop := ∃ (p0 p1 p2 p3 : Int) (r : List Int), H a = some (.lst (.int p0 :: .int p1 :: .int p2 :: .int p3 :: r.map V.int)) ∧ 0 ≤ p0 ∧ 0 ≤ p1 ∧ 0 ≤ p2 ∧ p2 < 2147483647 ∧ 0 ≤ p3 ∧ r.length ≤ 63
/-- the pool at a may have changed; all else that was tracked stands -/
def Chg (a : Addr) (H H' : Hp) : Prop := PoolAt H' a ∧ ∀ b o, b ≠ a → H b = some o → H' b = some o
theorem Chg.refl {a : Addr} {H : Hp} (h : PoolAt H a) : Chg a H H := ⟨h, fun _ _ _ e => e⟩
theorem Chg.trans {a : Addr} {H H1 H2 : Hp} (x : Chg a H H1) (y : Chg a H1 H2) : Chg a H H2 := ⟨y.1, fun b o n e => y.2 b o n (x.2 b o n e)⟩
theorem Chg.new {a p : Addr} {o : HO} {H H1 : Hp} (x : Chg a H H1) (h : H1 p = none) : Chg a H (upd H1 p o) := by
  obtain ⟨⟨p0, p1, p2, p3, r, e, c⟩, k⟩ := x
  have n : a ≠ p := ne_of_none e h
  exact ⟨⟨p0, p1, p2, p3, r, by rw [upd_ne n]; exact e, c⟩, fun b u nb q => by
    have q' := k b u nb q
    rw [upd_ne (ne_of_none q' h)]
    exact q'⟩
theorem Chg.mut {a p : Addr} {o : HO} {H H1 : Hp} (x : Chg a H H1) (h : H p = none) (n : p ≠ a) : Chg a H (upd H1 p o) := by
  obtain ⟨⟨p0, p1, p2, p3, r, e, c⟩, k⟩ := x
  exact ⟨⟨p0, p1, p2, p3, r, by rw [upd_ne n.symm]; exact e, c⟩, fun b u nb q => by
    rw [upd_ne (ne_of_none q h)]
    exact k b u nb q⟩
theorem Chg.ne {a p : Addr} {H : Hp} (x : PoolAt H a) (h : H p = none) : p ≠ a := by
  obtain ⟨p0, p1, p2, p3, r, e, c⟩ := x
  exact (ne_of_none e h).symm
theorem PoolAt.same {a : Addr} {H H' : Hp} (x : PoolAt H a) (s : Same H H') : PoolAt H' a := by
  obtain ⟨p0, p1, p2, p3, r, e, c⟩ := x
  exact ⟨p0, p1, p2, p3, r, s _ _ e, c⟩
theorem same_upd {H : Hp} {p : Addr} {o : HO} (h : H p = none) : Same H (upd H p o) := fun b x e => by
  rw [upd_ne (ne_of_none e h)]
  exact e
theorem Same.on {H H' : Hp} {b : Addr} {o : HO} (s : Same H H') (e : H b = some o) : H' b = some o := s _ _ e
theorem upd_old {H : Hp} {p b : Addr} {o u : HO} (h : H p = none) (e : H b = some u) : upd H p o b = some u := by
  rw [upd_ne (ne_of_none e h)]
  exact e
theorem upd_oldN {H : Hp} {p b : Addr} {o u : HO} (n : b ≠ p) (e : H b = some u) : upd H p o b = some u := by
  rw [upd_ne n]
  exact e
theorem free_of {a p : Addr} {H H1 : Hp} (x : Chg a H H1) (h0 : PoolAt H a) (h : H1 p = none) : H p = none := by
  cases e : H p with
  | none => rfl
  | some o =>
    by_cases n : p = a
    · subst n
      obtain ⟨⟨p0, p1, p2, p3, r, e, c⟩, _⟩ := x
      rw [e] at h
      cases h
    · rw [x.2 p o n e] at h
      cases h
theorem ixN_at {n j : Nat} (h : j < n) : ixN n (j : Int) = some j := by
  unfold ixN
  rw [if_pos (by omega), if_pos (by omega)]
  simp
theorem ite_d {p A B : Prop} [Decidable p] (h1 : p → A) (h2 : ¬ p → B) : if decide p = true then A else B := by
  by_cases h : p
  · rw [if_pos (decide_eq_true h)]
    exact h1 h
  · rw [if_neg (by rw [decide_eq_false h]; decide)]
    exact h2 h
theorem ite_nd {p A B : Prop} [Decidable p] (h1 : ¬ p → A) (h2 : p → B) : if (!decide p) = true then A else B := by
  by_cases h : p
  · rw [if_neg (by rw [decide_eq_true h]; decide)]
    exact h2 h
  · rw [if_pos (by rw [decide_eq_false h]; decide)]
    exact h1 h
theorem ite_eqI {i j : Int} {A B : Prop} (h1 : i = j → A) (h2 : i ≠ j → B) : if decide (V.int i = V.int j) = true then A else B := ite_d (fun h => h1 (V.int.inj h)) (fun h => h2 fun e => h (congrArg V.int e))
theorem int_at {q0 q1 q2 q3 : Int} {r : List Int} {i : Nat} (h : i < (V.int q0 :: .int q1 :: .int q2 :: .int q3 :: r.map V.int).length) : ∃ c, (V.int q0 :: .int q1 :: .int q2 :: .int q3 :: r.map V.int)[i]? = some (.int c) := by
  have e : (V.int q0 :: .int q1 :: .int q2 :: .int q3 :: r.map V.int) = (q0 :: q1 :: q2 :: q3 :: r).map V.int := rfl
  rw [e] at h ⊢
  rw [List.length_map] at h
  exact ⟨_, by rw [List.getElem?_map, List.getElem?_eq_getElem h]; rfl⟩
theorem map_at {α β : Type} {f : α → β} {xs : List α} {i : Nat} {y : β} (h : (xs.map f)[i]? = some y) : ∃ x, xs[i]? = some x ∧ f x = y := by
  rw [List.getElem?_map] at h
  cases e : xs[i]? with
  | none =>
    rw [e] at h
    cases h
  | some x =>
    rw [e] at h
    exact ⟨x, rfl, Option.some.inj h⟩
theorem map_take {α β : Type} {f : α → β} {xs : List α} {i : Nat} {x : α} (h : xs[i]? = some x) : (xs.take (i + 1)).map f = (xs.take i).map f ++ [f x] := by
  rw [List.take_add_one, h, List.map_append]
  rfl
theorem small1000' {n : Nat} (h : n ≤ 1000) : n ≤ sizeLine := Nat.le_of_lt (small1000 h)
theorem hu_of64 {A : Around} {k : Nat} (hr : Room k A) : A.units + 64 < cLine := Nat.lt_of_le_of_lt (Nat.add_le_add_left (by omega : 64 ≤ 16 * k + 200) _) (by have := hr.un; omega)
theorem hu_of65 {A : Around} {k : Nat} (hr : Room k A) : A.units + 65 < cLine := Nat.lt_of_le_of_lt (Nat.add_le_add_left (by omega : 65 ≤ 16 * k + 200) _) (by have := hr.un; omega)
theorem hu_of80 {A : Around} {k : Nat} (hr : Room k A) : A.units + 80 < cLine := Nat.lt_of_le_of_lt (Nat.add_le_add_left (by omega : 80 ≤ 16 * k + 200) _) (by have := hr.un; omega)
theorem at_g {α : Type} {xs : List α} {z : Int} {j : Nat} {v : α} (e : z = (j : Int)) (h : xs[j]? = some v) : atI xs z = some v := by
  rw [e]
  exact atI_nat h
theorem at_some {α : Type} {xs : List α} {z : Int} (h0 : 0 ≤ z) (h1 : z < xs.length) : ∃ v, atI xs z = some v := by
  have h2 : z.toNat < xs.length := by omega
  exact ⟨_, at_g (show z = ((z.toNat : Nat) : Int) by omega) (List.getElem?_eq_getElem h2)⟩
theorem atI_mem {α : Type} {xs : List α} {z : Int} {v : α} (h : atI xs z = some v) : v ∈ xs := by
  unfold atI at h
  cases e : ixN xs.length z with
  | none =>
    rw [e] at h
    cases h
  | some j =>
    rw [e] at h
    exact List.mem_of_getElem? h
theorem cutS_mem {z : Str} {lo hi : Option Int} {c : Nat} (h : c ∈ (cutS z lo hi).cps.toList) : c ∈ z.cps.toList := by
  unfold cutS at h
  exact List.mem_of_mem_drop (List.mem_of_mem_take h)
theorem letter_at : ∀ j : Nat, j < 26 → ("abcdefghijklmnopqrstuvwxyz" : Str).cps.toList[j]? = some (97 + j) := by decide +kernel
section
variable {P : Program} {w : World} {K : PySem.W.Frag} {mg : Str → Option Value} {base : Heap} {a : Nat → Addr} {d : Nat → FuncData}
/-! ### _law_mixed: some int -/
def spMixed : Sp := fun vs H Q _ => ∃ (s c : Int), vs = [.int s, .int c] ∧ ∀ r : Int, Q (.int r) H
theorem ok_mixed (T : Txt K mg a d) : FnOk P w K mg base CX0 1 (a 43) (d 43) ["_law_seed", "_law_count"] spMixed := by
  refine T.F43.ok sc__law_mixed (fun vs H Q E h => ?_) (fun cdv A outer s H vs Q E hr h => ?_)
  · obtain ⟨s, c, rfl, _⟩ := h
    rfl
  · obtain ⟨s, c, rfl, q⟩ := h
    refine ⟨_, (pss_cons (ps_set (i := 2) sc__law_mixed.nd rfl (.inl rfl) (pe_op op_mod (pe_callTy (T := "int")  call_int1 (by rfl) T.z_int (by decide +kernel) (pa_cons (pe_op op_mul (pe_op op_add (pe_op op_add (pv 0) (pe_op op_mul pe_int (pv 1))) pe_int) pe_int) pa_nil)) pe_int))
  (pss_cons (ps_set (i := 2) sc__law_mixed.nd rfl (.inl rfl) (pe_op op_mod (pe_callTy (T := "int")  call_int1 (by rfl) T.z_int (by decide +kernel) (pa_cons (pe_op op_mul (pv 2) (pe_op op_add (pe_op op_fdivW (pv 2) pe_int) pe_int)) pa_nil)) pe_int))
  (pss_one (ps_ret (pe_op op_mod (pe_callTy (T := "int")  call_int1 (by rfl) T.z_int (by decide +kernel) (pa_cons (pe_op op_mul (pv 2) (pe_op op_add (pe_op op_fdivW (pv 2) pe_int) pe_int)) pa_nil)) pe_int))))), ?_⟩
    walk_at "gg"
    exact q _
/-! ### _law_draw: an int from 0 below many -/
def spDraw : Sp := fun vs H Q _ => ∃ (p : Addr) (m : Int), vs = [.ref p, .int m] ∧ PoolAt H p ∧ 0 < m ∧ m.natAbs < 2 ^ 200 ∧ ∀ (r : Int) (H' : Hp), 0 ≤ r → r < m → Chg p H H' → Q (.int r) H'
def Oth (a : Addr) (H H' : Hp) : Prop := ∀ b o, b ≠ a → H b = some o → H' b = some o
theorem Oth.refl (a : Addr) (H : Hp) : Oth a H H := fun _ _ _ e => e
theorem Oth.upd {a : Addr} {H H' : Hp} {o : HO} (x : Oth a H H') : Oth a H (upd H' a o) := fun b u n e => by
  rw [upd_ne n]
  exact x b u n e
theorem chg_of {p : Addr} {H H' : Hp} {p0 p1 p2 p3 : Int} {r : List Int} (e : H' p = some (.lst (.int p0 :: .int p1 :: .int p2 :: .int p3 :: r.map V.int))) (o : Oth p H H')
    (h0 : 0 ≤ p0) (h1 : 0 ≤ p1) (h2 : 0 ≤ p2) (h3 : p2 < 2147483647) (h4 : 0 ≤ p3) (h5 : r.length ≤ 63) : Chg p H H' := ⟨⟨p0, p1, p2, p3, r, e, h0, h1, h2, h3, h4, h5⟩, o⟩
theorem ok_draw (T : Txt K mg a d) : FnOk P w K mg base CX0 2 (a 44) (d 44) ["_law_pool_here", "_law_many"] spDraw := by
  have G43 : FnOk P w K mg base CX0 1 (a 43) (d 43) ["_law_seed", "_law_count"] spMixed := ok_mixed T
  refine T.F44.ok sc__law_draw (fun vs H Q E h => ?_) (fun cdv A outer s H vs Q E hr h => ?_)
  · obtain ⟨p, m, rfl, _⟩ := h
    rfl
  · obtain ⟨p, m, rfl, ⟨p0, p1, p2, p3, r, e, c0, c1, c2, c3, c4, c5⟩, hm, hm2, q⟩ := h
    refine ⟨_, (pss_cons (ps_asg (pe_op op_add (pe_ix ix_list (pv 0) pe_int (fun _ _ => rfl)) pe_int) (pg_sub (pv 0) pe_int set_list))
  (Evl.pss_cut (ps_if (PW.pt (pw_and (pt_cmpR op_eq (pe_ix ix_list (pv 0) pe_int (fun _ _ => rfl)) pe_int (nomark _)) (pw_and1 (pt_cmpR op_lt (pe_ix ix_list (pv 0) pe_int (fun _ _ => rfl)) (pe_callB (id := "len")  call_len_seq (by rfl) T.z_len (by decide +kernel) (pa_cons (pv 0) pa_nil)) (nomark _)))))
    (pss_cons (ps_set (i := 2) sc__law_draw.nd rfl (.inl rfl) (pe_callB (id := "abs")  call_abs (by rfl) T.z_abs (by decide +kernel) (pa_cons (pe_ix ix_list (pv 0) (pe_ix ix_list (pv 0) pe_int (fun _ _ => rfl)) (fun _ _ => rfl)) pa_nil)))
      (pss_cons (ps_asg (pe_op op_add (pe_ix ix_list (pv 0) pe_int (fun _ _ => rfl)) pe_int) (pg_sub (pv 0) pe_int set_list))
      (pss_one (ps_if (pt_cmpR op_lt (pv 2) (pe_op op_pow pe_int pe_int) (nomark _))
        (pss_one (ps_asg (pe_op op_mod (pe_callTy (T := "int")  call_int1 (by rfl) T.z_int (by decide +kernel) (pa_cons (pe_op op_add (pe_op op_add (pe_op op_mul (pe_ix ix_list (pv 0) pe_int (fun _ _ => rfl)) pe_int) (pv 2)) pe_int) pa_nil)) pe_int) (pg_sub (pv 0) pe_int set_list)))
        (pss_one (ps_asg (pv 2) (pg_sub (pv 0) pe_int set_list)))))))
    pss_nil)
  (pss_cons (ps_if (pt_cmpR op_gt (pe_ix ix_list (pv 0) pe_int (fun _ _ => rfl)) pe_int (nomark _))
    (pss_cons (ps_set (i := 3) sc__law_draw.nd rfl (.inl rfl) (pe_op op_mod (pe_callTy (T := "int")  call_int1 (by rfl) T.z_int (by decide +kernel) (pa_cons (pe_ix ix_list (pv 0) pe_int (fun _ _ => rfl)) pa_nil)) (pv 1)))
      (pss_cons (ps_asg (pe_op op_fdivW (pe_ix ix_list (pv 0) pe_int (fun _ _ => rfl)) (pv 1)) (pg_sub (pv 0) pe_int set_list))
      (pss_one (ps_ret (pv 3)))))
    pss_nil)
  (pss_one (ps_ret (pe_op op_mod (pe_callTy (T := "int")  call_int1 (by rfl) T.z_int (by decide +kernel) (pa_cons (pe_call G43 (hr.mono (by decide)) (by rfl) T.g43 T.F43.kp T.b43 .nil pass0 (pa_cons (pe_ix ix_list (pv 0) pe_int (fun _ _ => rfl)) (pa_cons (pe_ix ix_list (pv 0) pe_int (fun _ _ => rfl)) pa_nil))) pa_nil)) (pv 1))))))), ?_⟩
    -- pool[3] = pool[3] + 1
    refine ⟨_, rfl, _, _, _, _, rfl, rfl, .of e, atI_nat (j := 3) rfl, _, _, rfl, rfl, _, rfl, _, _, _, 3, rfl, rfl, e, ixN_at (j := 3) (by simp only [List.length_cons]; omega), ?_⟩
    generalize hH : upd H p (HO.lst (List.set _ _ _)) = H1
    have e1 : H1 p = some (.lst (.int p0 :: .int p1 :: .int p2 :: .int (p3 + 1) :: r.map V.int)) := by
      rw [← hH]
      exact upd_same
    have o1 : Oth p H H1 := by
      rw [← hH]
      exact (Oth.refl p H).upd
    -- if pool[0] == 0 and pool[1] < len(pool): ..
    refine ⟨fun σ H2 => ∃ (q0 q1 q2 : Int) (y : Option V), σ = [some (.ref p), some (.int m), y, none] ∧ H2 p = some (.lst (.int q0 :: .int q1 :: .int q2 :: .int (p3 + 1) :: r.map V.int)) ∧ Oth p H H2 ∧ 0 ≤ q0 ∧ 0 ≤ q1 ∧ 0 ≤ q2 ∧ q2 < 2147483647, ?_, ?_⟩
    · refine ⟨_, rfl, _, _, _, _, rfl, rfl, .of e1, atI_nat (j := 0) rfl, rfl, _, rfl, ite_eqI (fun h0 => ?_) (fun h0 => iteF ⟨p0, p1, p2, none, rfl, e1, o1, c0, c1, c2, c3⟩)⟩
      refine ⟨_, rfl, _, _, _, _, rfl, rfl, .of e1, atI_nat (j := 1) rfl, _, rfl, _, _, rfl, .inl (.of e1), _, _, rfl, rfl, _, rfl, ite_d (fun h1 => ?_) (fun h1 => ⟨p0, p1, p2, none, rfl, e1, o1, c0, c1, c2, c3⟩)⟩
      -- cell = abs(pool[pool[1]]); pool[1] = pool[1] + 1
      obtain ⟨c, hc⟩ := int_at (q0 := p0) (q1 := p1) (q2 := p2) (q3 := p3 + 1) (r := r) (i := p1.toNat) (by omega)
      refine ⟨_, rfl, _, rfl, _, _, _, _, rfl, rfl, .of e1, atI_nat (j := 1) rfl, _, _, _, _, rfl, rfl, .of e1, at_of (j := p1.toNat) (by omega) hc, _, rfl, ?_⟩
      refine ⟨_, rfl, _, _, _, _, rfl, rfl, .of e1, atI_nat (j := 1) rfl, _, _, rfl, rfl, _, rfl, _, _, _, 1, rfl, rfl, e1, ixN_at (j := 1) (by simp only [List.length_cons]; omega), ?_⟩
      generalize hH2 : upd H1 p (HO.lst (List.set _ _ _)) = H2
      have e2 : H2 p = some (.lst (.int p0 :: .int (p1 + 1) :: .int p2 :: .int (p3 + 1) :: r.map V.int)) := by
        rw [← hH2]
        exact upd_same
      have o2 : Oth p H H2 := by
        rw [← hH2]
        exact o1.upd
      refine ⟨_, rfl, _, _, rfl, rfl, ⟨by decide, by decide, by decide⟩, _, _, rfl, rfl, _, rfl, ite_d (fun h2 => ?_) (fun h2 => ?_)⟩
      · refine ⟨_, rfl, _, _, _, _, rfl, rfl, .of e2, atI_nat (j := 2) rfl, _, _, rfl, rfl, .inr ⟨by decide, by decide⟩, _, rfl, _, _, rfl, rfl, _, _, rfl, rfl, .inl ⟨_, rfl, _, _, rfl, rfl, (by show (0 : Int) < _; decide), _, rfl, _, _, _, 2, rfl, rfl, e2, ixN_at (j := 2) (by simp only [List.length_cons]; omega), ?_⟩⟩
        exact ⟨p0, p1 + 1, _, _, rfl, upd_same, o2.upd, c0, by omega, Int.emod_nonneg _ (by decide), Int.emod_lt_of_pos _ (by decide)⟩
      · refine ⟨_, rfl, _, rfl, _, _, _, 0, rfl, rfl, e2, ixN_at (j := 0) (by simp only [List.length_cons]; omega), ?_⟩
        exact ⟨_, p1 + 1, p2, _, rfl, upd_same, o2.upd, by split <;> omega, by omega, c2, c3⟩
    · rintro σ H2 ⟨q0, q1, q2, y, rfl, e2, o2, d0, d1, d2, d3⟩
      refine ⟨_, rfl, _, _, _, _, rfl, rfl, .of e2, atI_nat (j := 0) rfl, _, _, rfl, rfl, _, rfl, ite_d (fun h0 => ?_) (fun h0 => ?_)⟩
      · refine ⟨_, rfl, _, _, _, _, rfl, rfl, .of e2, atI_nat (j := 0) rfl, .inl ⟨_, rfl, _, rfl, _, _, rfl, rfl, hm, ?_⟩⟩
        refine ⟨_, rfl, _, _, _, _, rfl, rfl, .of e2, atI_nat (j := 0) rfl, _, rfl, _, _, rfl, rfl, wide_div hm hm2 (by decide) (by decide), _, rfl, _, _, _, 0, rfl, rfl, e2, ixN_at (j := 0) (by simp only [List.length_cons]; omega), ?_⟩
        exact ⟨_, rfl, q _ _ (Int.emod_nonneg _ (by omega)) (Int.emod_lt_of_pos _ hm) (chg_of upd_same o2.upd (Int.ediv_nonneg d0 (by omega)) d1 d2 d3 (by omega) c5)⟩
      · refine ⟨_, rfl, _, _, _, _, rfl, rfl, .of e2, atI_nat (j := 2) rfl, _, rfl, _, _, _, _, rfl, rfl, .of e2, atI_nat (j := 3) rfl, _, _, rfl, fun x => .inl ⟨_, rfl, _, rfl, _, _, rfl, rfl, hm, ?_⟩⟩
        exact q _ _ (Int.emod_nonneg _ (by omega)) (Int.emod_lt_of_pos _ hm) (chg_of e2 o2 d0 d1 d2 d3 (by omega) c5)
/-! ### _law_pool: a pool made of the script -/
def spPool (K : PySem.W.Frag) : Sp := fun vs H Q _ => ∃ (p : Addr) (ns : List Int), vs = [.ref p] ∧ SqL K H p (ns.map V.int) ∧ ns.length ≤ 63 ∧ ∀ q H', H q = none → PoolAt H' q → Same H H' → Q (.ref q) H'
theorem ok_pool (T : Txt K mg a d) : FnOk P w K mg base CX0 1 (a 42) (d 42) ["_law_script"] (spPool K) := by
  refine T.F42.ok sc__law_pool (fun vs H Q E h => ?_) (fun cdv A outer s H vs Q E hr h => ?_)
  · obtain ⟨p, ns, rfl, _⟩ := h
    rfl
  · obtain ⟨p, ns, rfl, hS, hl, q⟩ := h
    refine ⟨_, (pss_one (ps_ret (pe_op op_cat (pe_lst (pa_cons pe_int (pa_cons pe_int (pa_cons pe_int (pa_cons pe_int pa_nil))))) (pe_lc (own := [("_law_cell", 1)]) rfl sc__law_pool.nd (pi_list (pv 0)) (blkOk_by (N := ["_law_script", "_law_cell"]) (sc := defScope s__law_pool) (by decide +kernel)) (fun _ _ _ _ _ => pg_name (i := 1) sc__law_pool.nd rfl (.inl rfl)) (fun _ _ _ _ _ => pts_nil) (fun _ _ _ _ _ => (pe_callTy (T := "int")  call_int1 (by rfl) T.z_int (by decide +kernel) (pa_cons (pv 1) pa_nil))))))), ?_⟩
    refine ⟨by show 4 ≤ sizeLine; decide, fun l nl => ?_⟩
    have s1 : Same H (upd H l (.lst [.int 0, .int 4, .int 5, .int 0])) := same_upd nl
    refine ⟨_, rfl, p, rfl, ⟨_, s1.seq hS⟩, fun D hD => ?_⟩
    refine lc_list (K := K) (a := p) (xs := ns.map V.int) (fun i H' => H' D = some (.lst ((ns.take i).map V.int)) ∧ Same (upd H l (.lst [.int 0, .int 4, .int 5, .int 0])) H') ⟨upd_same, same_upd hD⟩ (fun i H' _ hp => (s1.trans hp.2).seq hS) (fun i x H' hx hp => ?_) (fun H' hp => ?_)
    · obtain ⟨z, hz, rfl⟩ := map_at hx
      have hi : i < ns.length := (List.getElem?_eq_some_iff.mp hz).1
      refine ⟨rfl, ?_⟩
      refine ⟨_, rfl, .inl ⟨_, rfl, _, hp.1, ?_, ?_, ?_⟩⟩
      · rw [List.length_map, List.length_take]
        exact small1000 (by omega)
      · rw [map_take hz]
        exact upd_same
      · exact fun b o e => by
          rw [upd_ne (ne_of_none e hD)]
          exact hp.2 b o e
    · obtain ⟨h1, h2⟩ := hp
      rw [List.length_map, List.take_length] at h1
      refine ⟨l, D, _, _, rfl, rfl, h2 _ _ upd_same, h1, ?_, fun r hr => ?_⟩
      · show 4 + (ns.map V.int).length ≤ sizeLine
        rw [List.length_map]
        exact Nat.le_trans (by omega : 4 + ns.length ≤ 67) (by decide)
      · exact q r _ (s1.free (h2.free hr)) ⟨0, 4, 5, 0, ns, upd_same, by decide, by decide, by decide, by decide, by decide, hl⟩ ((s1.trans h2).trans (same_upd hr))
/-! ### _law_word: a word of so many letters -/
def IsWd (s : Str) (m : Nat) : Prop := s.length = m ∧ ∀ c ∈ s.cps.toList, 97 ≤ c ∧ c ≤ 122
def spWord : Sp := fun vs H Q _ => ∃ (p : Addr) (m : Nat), vs = [.ref p, .int (m : Int)] ∧ PoolAt H p ∧ m ≤ 100 ∧ ∀ (s : Str) (H' : Hp), IsWd s m → Chg p H H' → Q (.str s) H'
end
/-! ### words, names -/
def Wd (s : Str) : Prop := 1 ≤ s.length ∧ s.length ≤ 8 ∧ ∀ c ∈ s.cps.toList, 97 ≤ c ∧ c ≤ 122
def sgn (c : Nat) : Str := ⟨#[c]⟩
theorem cps_app (s t : Str) : (s ++ t).cps.toList = s.cps.toList ++ t.cps.toList := by
  show (s.cps ++ t.cps).toList = _
  rw [Array.toList_append]
theorem len_cps (s : Str) : s.length = s.cps.toList.length := by
  show s.cps.size = _
  rw [Array.length_toList]
theorem len_app (s t : Str) : (s ++ t).length = s.length + t.length := by
  rw [len_cps, cps_app, List.length_append, ← len_cps, ← len_cps]
def nmOf (fr : Bool) (stem : Str) (c : Nat) : Str := if fr = true then sgn c ++ stem else stem ++ sgn c
theorem nmOf_inj {fr : Bool} {stem : Str} {c e : Nat} (h : nmOf fr stem c = nmOf fr stem e) : c = e := by
  have h' := congrArg (fun s : Str => s.cps.toList) h
  cases fr with
  | true =>
    have h2 : (sgn c ++ stem).cps.toList = (sgn e ++ stem).cps.toList := h'
    rw [cps_app, cps_app] at h2
    exact (List.cons.inj h2).1
  | false =>
    have h2 : (stem ++ sgn c).cps.toList = (stem ++ sgn e).cps.toList := h'
    rw [cps_app, cps_app] at h2
    exact (List.cons.inj (List.append_cancel_left h2)).1
theorem nmOf_wd {fr : Bool} {stem : Str} {n c : Nat} (h : IsWd stem n) (hn : n ≤ 7) (h1 : 97 ≤ c) (h2 : c ≤ 122) : Wd (nmOf fr stem c) := by
  have l1 : (sgn c).length = 1 := rfl
  have hl := h.1
  have hs : ∀ x ∈ (sgn c).cps.toList, 97 ≤ x ∧ x ≤ 122 := fun x hx => by
    rw [List.mem_singleton.mp hx]
    exact ⟨h1, h2⟩
  cases fr with
  | true =>
    refine ⟨?_, ?_, fun x hx => ?_⟩
    · show 1 ≤ (sgn c ++ stem).length
      rw [len_app]
      omega
    · show (sgn c ++ stem).length ≤ 8
      rw [len_app]
      omega
    · have hx' : x ∈ (sgn c ++ stem).cps.toList := hx
      rw [cps_app] at hx'
      exact (List.mem_append.mp hx').elim (hs x) (h.2 x)
  | false =>
    refine ⟨?_, ?_, fun x hx => ?_⟩
    · show 1 ≤ (stem ++ sgn c).length
      rw [len_app]
      omega
    · show (stem ++ sgn c).length ≤ 8
      rw [len_app]
      omega
    · have hx' : x ∈ (stem ++ sgn c).cps.toList := hx
      rw [cps_app] at hx'
      exact (List.mem_append.mp hx').elim (h.2 x) (hs x)
/-- names of m things: words, no two alike -/
structure Nms (ns : List Str) (m : Nat) : Prop where
  len : ns.length = m
  nd : ns.Nodup
  wd : ∀ s ∈ ns, Wd s
def signAt (f s : Int) (k : Nat) : Nat := 97 + ((f + s * (k : Int)) % 26).toNat
theorem signAt_le (f s : Int) (k : Nat) : 97 ≤ signAt f s k ∧ signAt f s k ≤ 122 := by
  unfold signAt
  have h1 := Int.emod_nonneg (f + s * (k : Int)) (by decide : (26 : Int) ≠ 0)
  have h2 := Int.emod_lt_of_pos (f + s * (k : Int)) (by decide : (0 : Int) < 26)
  omega
theorem signAt_inj {f s : Int} (hs : s ∈ ([1, 3, 5, 7, 9, 11] : List Int)) {i j : Nat} (hi : i < 26) (hj : j < 26) (h : signAt f s i = signAt f s j) : i = j := by
  unfold signAt at h
  have h1 := Int.emod_nonneg (f + s * (i : Int)) (by decide : (26 : Int) ≠ 0)
  have h2 := Int.emod_nonneg (f + s * (j : Int)) (by decide : (26 : Int) ≠ 0)
  have e : (f + s * (i : Int)) % 26 = (f + s * (j : Int)) % 26 := by omega
  simp only [List.mem_cons, List.not_mem_nil, or_false] at hs
  rcases hs with rfl | rfl | rfl | rfl | rfl | rfl <;> omega
def namesOf (fr : Bool) (stem : Str) (f s : Int) (m : Nat) : List Str := (List.range m).map fun k => nmOf fr stem (signAt f s k)
theorem namesOf_succ (fr : Bool) (stem : Str) (f s : Int) (m : Nat) : namesOf fr stem f s (m + 1) = namesOf fr stem f s m ++ [nmOf fr stem (signAt f s m)] := by
  unfold namesOf
  rw [List.range_succ, List.map_append]
  rfl
theorem nodup_map {α β : Type} {f : α → β} : ∀ {xs : List α}, xs.Nodup → (∀ x ∈ xs, ∀ y ∈ xs, f x = f y → x = y) → (xs.map f).Nodup
  | [], _, _ => List.nodup_nil
  | x :: xs, hd, hi => by
    have hd' := List.nodup_cons.mp hd
    rw [List.map_cons]
    refine List.nodup_cons.mpr ⟨fun hm => ?_, nodup_map hd'.2 fun y hy z hz => hi y (List.mem_cons_of_mem _ hy) z (List.mem_cons_of_mem _ hz)⟩
    obtain ⟨y, hy, e⟩ := List.mem_map.mp hm
    have := hi y (List.mem_cons_of_mem _ hy) x (List.mem_cons_self ..) e
    rw [this] at hy
    exact hd'.1 hy
theorem namesOf_ok {fr : Bool} {stem : Str} {n : Nat} {f s : Int} {m : Nat} (h : IsWd stem n) (hn : n ≤ 7) (hs : s ∈ ([1, 3, 5, 7, 9, 11] : List Int)) (hm : m ≤ 26) : Nms (namesOf fr stem f s m) m := by
  refine ⟨by unfold namesOf; rw [List.length_map, List.length_range], nodup_map List.nodup_range fun x hx y hy e => ?_, fun z hz => ?_⟩
  · exact signAt_inj hs (Nat.lt_of_lt_of_le (List.mem_range.mp hx) hm) (Nat.lt_of_lt_of_le (List.mem_range.mp hy) hm) (nmOf_inj e)
  · obtain ⟨k, hk, rfl⟩ := List.mem_map.mp hz
    exact nmOf_wd h hn (signAt_le f s k).1 (signAt_le f s k).2
section
variable {P : Program} {w : World} {K : PySem.W.Frag} {mg : Str → Option Value} {base : Heap} {a : Nat → Addr} {d : Nat → FuncData}
/-! ### _law_names -/
def spNames : Sp := fun vs H Q _ => ∃ (p : Addr) (m : Nat), vs = [.ref p, .int (m : Int)] ∧ PoolAt H p ∧ m ≤ 26 ∧
  ∀ (l : Addr) (ns : List Str) (H' : Hp), H l = none → H' l = some (.lst (ns.map V.str)) → Nms ns m → Chg p H H' → Q (.ref l) H'
/-! ### _law_columns -/
def Cols (cs : List Int) (w : Int) : Prop := cs.Pairwise (· < ·) ∧ ∀ c ∈ cs, 0 ≤ c ∧ c < w
theorem Cols.take {cs : List Int} {w : Int} (h : Cols cs w) (n : Nat) : Cols (cs.take n) w := ⟨h.1.sublist (List.take_sublist n cs), fun c hc => h.2 c (List.mem_of_mem_take hc)⟩
theorem Cols.snoc {cs : List Int} {i : Nat} (h : Cols cs (i : Int)) : Cols (cs ++ [(i : Int)]) ((i + 1 : Nat) : Int) := by
  refine ⟨List.pairwise_append.mpr ⟨h.1, List.pairwise_singleton _ _, fun x hx y hy => ?_⟩, fun c hc => ?_⟩
  · rw [List.mem_singleton.mp hy]
    exact (h.2 x hx).2
  · rcases List.mem_append.mp hc with h' | h'
    · have := h.2 c h'
      omega
    · rw [List.mem_singleton.mp h']
      omega
theorem Cols.up {cs : List Int} {v w : Int} (h : Cols cs v) (hw : v ≤ w) : Cols cs w := ⟨h.1, fun c hc => ⟨(h.2 c hc).1, Int.lt_of_lt_of_le (h.2 c hc).2 hw⟩⟩
theorem cut_take (xs : List V) (n : Nat) : cutV xs none (some (n : Int)) = xs.take n := by
  unfold cutV
  show (xs.drop 0).take (HT.sIx xs.length xs.length (some (n : Int)) - 0) = _
  rw [List.drop_zero, Nat.sub_zero]
  rw [HT.sIx_nat]
  by_cases h : n ≤ xs.length
  · rw [Nat.min_eq_left h]
  · rw [Nat.min_eq_right (by omega), List.take_length, List.take_of_length_le (by omega)]
def spCols : Sp := fun vs H Q _ => ∃ (p : Addr) (w lo : Int) (hi : Nat), vs = [.ref p, .int w, .int lo, .int (hi : Int)] ∧ PoolAt H p ∧ 1 ≤ w ∧ w ≤ 100 ∧ lo ≤ 1 ∧
  ∀ (t : Addr) (cs : List Int) (H' : Hp), H t = none → H' t = some (.tup (cs.map V.int)) → Cols cs w → cs.length ≤ hi → (lo = 1 → 1 ≤ hi → 1 ≤ cs.length) → Chg p H H' → Q (.ref t) H'
/-! ### _law_tables -/
def tabK (ts : List (Str × Int)) : List (Key × V) := ts.map fun p => (Sum.inr p.1, V.int p.2)
structure Tabs (ts : List (Str × Int)) (m : Nat) (wm : Int) : Prop where
  nm : Nms (ts.map (·.1)) m
  wd : ∀ p ∈ ts, 1 ≤ p.2 ∧ p.2 ≤ wm
theorem Tabs.len {ts : List (Str × Int)} {m : Nat} {wm : Int} (h : Tabs ts m wm) : ts.length = m := by
  rw [← h.nm.len, List.length_map]
theorem valV_no {κ : Type} [DecidableEq κ] {k : κ} : ∀ {kvs : List (κ × V)}, k ∉ kvs.map (·.1) → valV kvs k = none
  | [], _ => rfl
  | p :: r, h => by
    rw [List.map_cons] at h
    rw [valV_neg (fun e => h (by rw [e]; exact List.mem_cons_self ..))]
    exact valV_no fun hm => h (List.mem_cons_of_mem _ hm)
theorem nd_take {α : Type} {xs : List α} {i : Nat} {x : α} (h : xs.Nodup) (hx : xs[i]? = some x) : x ∉ xs.take i := fun hm => by
  have e : (xs.take (i + 1)).Nodup := h.sublist (List.take_sublist _ _)
  rw [List.take_add_one, hx] at e
  exact (List.nodup_append.mp e).2.2 x hm x (by simp) rfl
theorem keys_tab (ts : List (Str × Int)) : (tabK ts).map (·.1) = (ts.map (·.1)).map Sum.inr := by
  unfold tabK
  rw [List.map_map, List.map_map]
  rfl
theorem inr_nd {ns : List Str} (h : ns.Nodup) : (ns.map (Sum.inr : Str → Key)).Nodup := nodup_map h fun _ _ _ _ e => Sum.inr.inj e
theorem inr_no {ns : List Str} {n : Str} (h : n ∉ ns) : (Sum.inr n : Key) ∉ ns.map Sum.inr := fun hm => by
  obtain ⟨x, hx, e⟩ := List.mem_map.mp hm
  rw [← Sum.inr.inj e] at h
  exact h hx
theorem tab_at {H : Hp} {t : Addr} {ts : List (Str × Int)} {n : Str} {w : Int} (e : H t = some (.dK (tabK ts))) (nd : (ts.map (·.1)).Nodup) (h : (n, w) ∈ ts) : DGet H t (.str n) (some (.int w)) := by
  have g := DGet.k (k := Sum.inr n) e
  have v : valV (tabK ts) (Sum.inr n) = some (.int w) := val_nodup (kvs := tabK ts) (by rw [keys_tab]; exact inr_nd nd) (Sum.inr n, V.int w) (List.mem_map.mpr ⟨(n, w), h, rfl⟩)
  rw [v] at g
  exact g
theorem snoc_map {α β : Type} (f : α → β) (xs : List α) (x : α) : (xs ++ [x]).map f = xs.map f ++ [f x] := by
  rw [List.map_append]
  rfl
theorem Chg.at {p b : Addr} {H H' : Hp} {o : HO} (c : Chg p H H') (n : b ≠ p) (e : H b = some o) : H' b = some o := c.2 b o n e
theorem pool_ne {H : Hp} {p b : Addr} {o : HO} (h : PoolAt H p) (e : H b = some o) (x : ∀ xs, o ≠ .lst xs) : b ≠ p := by
  obtain ⟨p0, p1, p2, p3, r, e', c⟩ := h
  exact ne_of e e' (x _)
def spTables : Sp := fun vs H Q _ => ∃ (p : Addr) (m : Nat) (wm : Int), vs = [.ref p, .int (m : Int), .int wm] ∧ PoolAt H p ∧ m ≤ 26 ∧ 1 ≤ wm ∧ wm ≤ 100 ∧
  ∀ (t : Addr) (ts : List (Str × Int)) (H' : Hp), H t = none → H' t = some (.dK (tabK ts)) → Tabs ts m wm → Chg p H H' → Q (.ref t) H'
/-! ### _law_keys -/
abbrev KeyE := Str × Addr × List Int
def keyK (ks : List KeyE) : List (Key × V) := ks.map fun b => (Sum.inr b.1, V.ref b.2.1)
theorem keys_key (ks : List KeyE) : (keyK ks).map (·.1) = (ks.map (·.1)).map Sum.inr := by
  unfold keyK
  rw [List.map_map, List.map_map]
  rfl
structure Keys (H : Hp) (ts : List (Str × Int)) (ks : List KeyE) : Prop where
  nd : (ks.map (·.1)).Nodup
  le : ks.length ≤ ts.length
  at_ : ∀ b ∈ ks, H b.2.1 = some (.tup (b.2.2.map V.int))
  ok : ∀ b ∈ ks, ∃ w, (b.1, w) ∈ ts ∧ Cols b.2.2 w ∧ 1 ≤ b.2.2.length ∧ (b.2.2.length : Int) < w
theorem Keys.mono {H H' : Hp} {ts : List (Str × Int)} {ks : List KeyE} (h : Keys H ts ks) (m : ∀ b xs, H b = some (.tup xs) → H' b = some (.tup xs)) : Keys H' ts ks := ⟨h.nd, h.le, fun b hb => m _ _ (h.at_ b hb), h.ok⟩
theorem chg_tup {p : Addr} {H H' : Hp} (h : PoolAt H p) (c : Chg p H H') : ∀ b xs, H b = some (.tup xs) → H' b = some (.tup xs) := fun b xs e => c.at (pool_ne h e (by intro _ z; cases z)) e
theorem upd_tup {H : Hp} {t : Addr} {o u : HO} (h : H t = some u) (n : ∀ xs, u ≠ .tup xs) : ∀ b xs, H b = some (.tup xs) → upd H t o b = some (.tup xs) := fun b xs e => by
  rw [upd_ne (ne_of e h (fun z => n xs z.symm))]
  exact e
def spKeys : Sp := fun vs H Q _ => ∃ (p t : Addr) (m : Nat) (ts : List (Str × Int)), vs = [.ref p, .ref t] ∧ PoolAt H p ∧ H t = some (.dK (tabK ts)) ∧ Tabs ts m 100 ∧ m ≤ 26 ∧
  ∀ (k : Addr) (ks : List KeyE) (H' : Hp), H k = none → H' k = some (.dK (keyK ks)) → Keys H' ts ks → Chg p H H' → Q (.ref k) H'
/-! ### _law_is_whole -/
theorem valV_mem {κ : Type} [DecidableEq κ] {k : κ} {v : V} : ∀ {kvs : List (κ × V)}, valV kvs k = some v → (k, v) ∈ kvs
  | [], h => by cases h
  | p :: r, h => by
    by_cases e : p.1 = k
    · rw [valV_pos e] at h
      have : p = (k, v) := by rw [← e, ← Option.some.inj h]
      rw [this]
      exact List.mem_cons_self ..
    · rw [valV_neg e] at h
      exact List.mem_cons_of_mem _ (valV_mem h)
theorem perm_nd {κ : Type} {a b : List (κ × V)} (p : a.Perm b) (nd : (b.map (·.1)).Nodup) : (a.map (·.1)).Nodup := (p.map (·.1)).nodup_iff.mpr nd
theorem valV_perm {κ : Type} [DecidableEq κ] {a b : List (κ × V)} (p : a.Perm b) (nd : (b.map (·.1)).Nodup) (k : κ) : valV a k = valV b k := by
  cases h : valV b k with
  | some v => exact val_nodup (perm_nd p nd) (k, v) (p.mem_iff.mpr (valV_mem h))
  | none =>
    cases h' : valV a k with
    | none => rfl
    | some v =>
      rw [val_nodup nd (k, v) (p.mem_iff.mp (valV_mem h'))] at h
      cases h
/-- a dict at t with these pairs, in any order -/
def DctAt (H : Hp) (t : Addr) (kvs : List (Key × V)) : Prop := ∃ ks, H t = some (.dK ks) ∧ ks.Perm kvs
theorem DctAt.of {H : Hp} {t : Addr} {kvs : List (Key × V)} (h : H t = some (.dK kvs)) : DctAt H t kvs := ⟨kvs, h, .refl _⟩
theorem DctAt.same {H H' : Hp} {t : Addr} {kvs : List (Key × V)} (h : DctAt H t kvs) (s : Same H H') : DctAt H' t kvs := by
  obtain ⟨ks, e, p⟩ := h
  exact ⟨ks, s _ _ e, p⟩
theorem DctAt.get {H : Hp} {t : Addr} {kvs : List (Key × V)} (h : DctAt H t kvs) (nd : (kvs.map (·.1)).Nodup) (k : Key) : DGet H t (kV k) (valV kvs k) := by
  obtain ⟨ks, e, p⟩ := h
  have g := DGet.k (k := k) e
  rw [valV_perm p nd] at g
  exact g
theorem tab_nd {ts : List (Str × Int)} {m : Nat} {wm : Int} (h : Tabs ts m wm) : ((tabK ts).map (·.1)).Nodup := by
  rw [keys_tab]
  exact inr_nd h.nm.nd
theorem tab_val {ts : List (Str × Int)} {m : Nat} {wm : Int} {n : Str} {w : Int} (h : Tabs ts m wm) (hm : (n, w) ∈ ts) : valV (tabK ts) (Sum.inr n) = some (.int w) :=
  val_nodup (kvs := tabK ts) (tab_nd h) (Sum.inr n, V.int w) (List.mem_map.mpr ⟨(n, w), hm, rfl⟩)
theorem key_nd {H : Hp} {ts : List (Str × Int)} {ks : List KeyE} {m : Nat} {wm : Int} (hT : Tabs ts m wm) (h : Keys H ts ks) : ((keyK ks).map (·.1)).Nodup := by
  rw [keys_key]
  exact inr_nd h.nd
theorem DctAt.at_ {H : Hp} {t : Addr} {kvs : List (Key × V)} {n : Str} {v : V} (h : DctAt H t kvs) (nd : (kvs.map (·.1)).Nodup) (e : valV kvs (Sum.inr n) = some v) : DGet H t (.str n) (some v) := by
  have g := h.get nd (Sum.inr n)
  rw [e] at g
  exact g
def capV : Option Int → V
  | none => .non
  | some i => .int i
theorem capV_none (c : Option Int) : decide (capV c = .non) = c.isNone := by
  cases c <;> rfl
def keyAt (ks : List KeyE) (n : Str) : Option KeyE := ks.find? fun b => decide (b.1 = n)
theorem keyAt_val (n : Str) : ∀ ks : List KeyE, valV (keyK ks) (Sum.inr n) = (keyAt ks n).map fun b => V.ref b.2.1
  | [] => rfl
  | b :: ks => by
    have ih := keyAt_val n ks
    unfold keyAt keyK at ih ⊢
    rw [List.map_cons]
    by_cases e : b.1 = n
    · rw [valV_pos (by rw [e])]
      simp [e]
    · rw [valV_neg (fun z => e (Sum.inr.inj z)), ih]
      simp [e]
theorem keyAt_mem {ks : List KeyE} {n : Str} {b : KeyE} (h : keyAt ks n = some b) : b ∈ ks ∧ b.1 = n := by
  unfold keyAt at h
  exact ⟨List.mem_of_find?_eq_some h, by simpa using List.find?_some h⟩
def isWh (w : Int) (ks : List KeyE) (n : Str) (cols : List Int) (cap : Option Int) : Bool :=
  cap.isNone || (decide ((cols.length : Int) = w) || match keyAt ks n with
    | none => false
    | some b => b.2.2.all fun x => decide (x ∈ cols))
theorem inV_ints (c : Int) (xs : List Int) : inV (.int c) (xs.map V.int) = decide (c ∈ xs) := by
  unfold inV
  rw [List.any_map]
  apply Bool.eq_iff_iff.mpr
  rw [List.any_eq_true, decide_eq_true_iff]
  constructor
  · rintro ⟨x, hx, e⟩
    have e' : decide (x = c) = true := e
    rw [← of_decide_eq_true e']
    exact hx
  · intro h
    exact ⟨c, h, decide_eq_true rfl⟩
theorem flat_ints (xs : List Int) : (xs.map V.int).all flatV = true := by
  rw [List.all_map, List.all_eq_true]
  intro _ _
  rfl
theorem dp_ints {K : PySem.W.Frag} {H : Hp} : ∀ ns : List Int, DpAll K H (ns.map V.int) (ns.map PyData.int)
  | [] => .nil
  | n :: ns => .cons (.int n) (dp_ints ns)
theorem lay_ints : ∀ ns : List Int, PyData.canLayAll0 (ns.map PyData.int) = true ∧ PyData.depthAll (ns.map PyData.int) = 0
  | [] => by simp [PyData.canLayAll0, PyData.depthAll]
  | n :: ns => by
    obtain ⟨h1, h2⟩ := lay_ints ns
    simp only [List.map_cons, PyData.canLayAll0, PyData.depthAll, PyData.canLay0, PyData.depth, h1, h2, Bool.and_self, true_and]
    rfl
theorem ints_shaped (ns : List Int) : SeqAt.shaped (.list (ns.map PyData.int)) = true := by
  obtain ⟨h1, h2⟩ := lay_ints ns
  show ((PyData.list (ns.map PyData.int)).canLay0 && decide ((PyData.list (ns.map PyData.int)).depth ≤ 64)) = true
  simp only [PyData.canLay0, PyData.depth, h1, h2]
  decide
theorem eqv_nilL (ds : List PyData) : PyData.eqv (.list ds) (.list []) = ds.isEmpty := by
  cases ds <;> simp [PyData.eqv, PyData.eqvAll]
theorem filter_empty (cs xs : List Int) : ((cs.filter fun c => !decide (c ∈ xs)).map PyData.int).isEmpty = cs.all fun c => decide (c ∈ xs) := by
  induction cs with
  | nil => rfl
  | cons c cs ih =>
    by_cases h : c ∈ xs
    · rw [List.filter_cons_of_neg (by simp [h]), ih, List.all_cons, decide_eq_true h, Bool.true_and]
    · rw [List.filter_cons_of_pos (by simp [h]), List.all_cons, decide_eq_false h, Bool.false_and]
      rfl
structure Told (H : Hp) (v : Addr) (n : Str) (ga : Addr) (cols : List Int) (cap : Option Int) : Prop where
  tup : H v = some (.tup [.str n, .ref ga, capV cap])
  cols : H ga = some (.tup (cols.map V.int))
theorem Told.mono {H H' : Hp} {v : Addr} {n : Str} {ga : Addr} {cols : List Int} {cap : Option Int} (h : Told H v n ga cols cap) (m : ∀ b xs, H b = some (.tup xs) → H' b = some (.tup xs)) : Told H' v n ga cols cap := ⟨m _ _ h.tup, m _ _ h.cols⟩
def spWhole : Sp := fun vs H Q _ => ∃ (t k v ga : Addr) (m : Nat) (ts : List (Str × Int)) (ks : List KeyE) (n : Str) (w : Int) (cols : List Int) (cap : Option Int), vs = [.ref t, .ref k, .ref v] ∧ DctAt H t (tabK ts) ∧ DctAt H k (keyK ks) ∧ Tabs ts m 100 ∧ Keys H ts ks ∧
  Told H v n ga cols cap ∧ (n, w) ∈ ts ∧ cols.length ≤ 100 ∧ ∀ H', Same H H' → Q (.bl (isWh w ks n cols cap)) H'
/-! ### _law_services -/
structure SvE where
  name : Str
  at_ : Addr
  tab : Str
  ga : Addr
  cols : List Int
  cap : Option Int
def svK (ss : List SvE) : List (Key × V) := ss.map fun b => (Sum.inr b.name, V.ref b.at_)
theorem keys_sv (ss : List SvE) : (svK ss).map (·.1) = (ss.map (·.name)).map Sum.inr := by
  unfold svK
  rw [List.map_map, List.map_map]
  rfl
def widthAt (ts : List (Str × Int)) (n : Str) : Int := ((ts.find? fun b => decide (b.1 = n)).map (·.2)).getD 0
theorem widthAt_mem {n : Str} {w : Int} : ∀ {ts : List (Str × Int)}, (ts.map (·.1)).Nodup → (n, w) ∈ ts → widthAt ts n = w
  | b :: ts, nd, h => by
    rw [List.map_cons] at nd
    have nd' := List.nodup_cons.mp nd
    unfold widthAt
    by_cases e : b.1 = n
    · rcases List.mem_cons.mp h with h' | h'
      · rw [← h']
        simp
      · exact absurd (by rw [e]; exact List.mem_map.mpr ⟨_, h', rfl⟩) nd'.1
    · rcases List.mem_cons.mp h with h' | h'
      · exact absurd (by rw [← h']) e
      · have ih := widthAt_mem nd'.2 h'
        unfold widthAt at ih
        simpa [e] using ih
/-- is the service whole -/
def whE (ts : List (Str × Int)) (ks : List KeyE) (b : SvE) : Bool := isWh (widthAt ts b.tab) ks b.tab b.cols b.cap
def fillE (ts : List (Str × Int)) (ks : List KeyE) (ss : List SvE) : List Str := (ss.filter fun b => !whE ts ks b).map (·.tab)
theorem fillE_snoc (ts : List (Str × Int)) (ks : List KeyE) (ss : List SvE) (b : SvE) : fillE ts ks (ss ++ [b]) = fillE ts ks ss ++ (if whE ts ks b = true then [] else [b.tab]) := by
  unfold fillE
  rw [List.filter_append, List.map_append]
  cases e : whE ts ks b <;> simp [e]
structure SvOk (H : Hp) (ts : List (Str × Int)) (b : SvE) : Prop where
  told : Told H b.at_ b.tab b.ga b.cols b.cap
  ok : ∃ w, (b.tab, w) ∈ ts ∧ Cols b.cols w ∧ b.cols.length ≤ 4
  cap : ∀ c, b.cap = some c → 1 ≤ c ∧ c ≤ 4
theorem SvOk.mono {H H' : Hp} {ts : List (Str × Int)} {b : SvE} (h : SvOk H ts b) (m : ∀ b xs, H b = some (.tup xs) → H' b = some (.tup xs)) : SvOk H' ts b := ⟨h.told.mono m, h.ok, h.cap⟩
structure Svcs (H : Hp) (ts : List (Str × Int)) (ks : List KeyE) (ss : List SvE) (n : Nat) : Prop where
  nm : Nms (ss.map (·.name)) n
  ok : ∀ b ∈ ss, SvOk H ts b
  one : (fillE ts ks ss).Nodup
theorem Svcs.mono {H H' : Hp} {ts : List (Str × Int)} {ks : List KeyE} {ss : List SvE} {n : Nat} (h : Svcs H ts ks ss n) (m : ∀ b xs, H b = some (.tup xs) → H' b = some (.tup xs)) : Svcs H' ts ks ss n := ⟨h.nm, fun b hb => (h.ok b hb).mono m, h.one⟩
theorem inV_strs (n : Str) (xs : List Str) : inV (.str n) (xs.map V.str) = decide (n ∈ xs) := by
  unfold inV
  rw [List.any_map]
  apply Bool.eq_iff_iff.mpr
  rw [List.any_eq_true, decide_eq_true_iff]
  constructor
  · rintro ⟨x, hx, e⟩
    have e' : decide (x = n) = true := e
    rw [← of_decide_eq_true e']
    exact hx
  · intro h
    exact ⟨n, h, decide_eq_true rfl⟩
theorem flat_strs (xs : List Str) : (xs.map V.str).all flatV = true := by
  rw [List.all_map, List.all_eq_true]
  intro _ _
  rfl
/-- while the services are made -/
structure SvMade (p t k ca l1 l2 s f : Addr) (ts : List (Str × Int)) (ks : List KeyE) (cps : List (Option Int)) (ns : List Str) (H0 H : Hp) (ss : List SvE) (fl : List Str) : Prop where
  chg : Chg p H0 H
  sv : H s = some (.dK (svK ss))
  fil : H f = some (.lst (fl.map V.str))
  ord : H l1 = some (.lst ((ts.map (·.1)).map V.str))
  nam : H l2 = some (.lst (ns.map V.str))
  tabs : H t = some (.dK (tabK ts))
  keys : H k = some (.dK (keyK ks))
  caps : H ca = some (.lst (cps.map capV))
  kok : Keys H ts ks
  ok : ∀ b ∈ ss, SvOk H ts b
structure SvNe (p t k ca l1 l2 s f : Addr) (H0 : Hp) : Prop where
  s0 : H0 s = none
  f0 : H0 f = none
  sp : s ≠ p
  fp : f ≠ p
  cp : ca ≠ p
  p1 : l1 ≠ p
  p2 : l2 ≠ p
  f1 : l1 ≠ f
  f2 : l2 ≠ f
  fc : ca ≠ f
theorem SvMade.go {p t k ca l1 l2 s f : Addr} {ts : List (Str × Int)} {ks : List KeyE} {cps : List (Option Int)} {ns : List Str} {H0 H H' : Hp} {ss : List SvE} {fl : List Str} (h : SvMade p t k ca l1 l2 s f ts ks cps ns H0 H ss fl) (n : SvNe p t k ca l1 l2 s f H0) (c : Chg p H H') : SvMade p t k ca l1 l2 s f ts ks cps ns H0 H' ss fl := by
  have m := chg_tup h.chg.1 c
  have d : ∀ {b : Addr} {kvs : List (Key × V)}, H b = some (.dK kvs) → H' b = some (.dK kvs) := fun e => c.at (pool_ne h.chg.1 e (by intro _ z; cases z)) e
  exact ⟨h.chg.trans c, d h.sv, c.at n.fp h.fil, c.at n.p1 h.ord, c.at n.p2 h.nam, d h.tabs, d h.keys, c.at n.cp h.caps, h.kok.mono m, fun b hb => (h.ok b hb).mono m⟩
theorem SvMade.same {p t k ca l1 l2 s f : Addr} {ts : List (Str × Int)} {ks : List KeyE} {cps : List (Option Int)} {ns : List Str} {H0 H H' : Hp} {ss : List SvE} {fl : List Str} (h : SvMade p t k ca l1 l2 s f ts ks cps ns H0 H ss fl) (n : SvNe p t k ca l1 l2 s f H0) (c : Same H H') : SvMade p t k ca l1 l2 s f ts ks cps ns H0 H' ss fl :=
  h.go n ⟨h.chg.1.same c, fun b o _ e => c b o e⟩
theorem SvMade.fill {p t k ca l1 l2 s f : Addr} {ts : List (Str × Int)} {ks : List KeyE} {cps : List (Option Int)} {ns : List Str} {H0 H : Hp} {ss : List SvE} {fl gl : List Str} (h : SvMade p t k ca l1 l2 s f ts ks cps ns H0 H ss fl) (n : SvNe p t k ca l1 l2 s f H0) : SvMade p t k ca l1 l2 s f ts ks cps ns H0 (upd H f (.lst (gl.map V.str))) ss gl := by
  have m : ∀ b xs, H b = some (.tup xs) → upd H f (.lst (gl.map V.str)) b = some (.tup xs) := upd_tup h.fil (by intro _ z; cases z)
  have d : ∀ {b : Addr} {kvs : List (Key × V)}, H b = some (.dK kvs) → upd H f (.lst (gl.map V.str)) b = some (.dK kvs) := fun e => by
    rw [upd_ne (ne_of e h.fil (by intro z; cases z))]
    exact e
  exact ⟨h.chg.mut n.f0 n.fp, d h.sv, upd_same, by rw [upd_ne n.f1]; exact h.ord, by rw [upd_ne n.f2]; exact h.nam, d h.tabs, d h.keys, by rw [upd_ne n.fc]; exact h.caps, h.kok.mono m, fun b hb => (h.ok b hb).mono m⟩
theorem SvMade.put {p t k ca l1 l2 s f : Addr} {ts : List (Str × Int)} {ks : List KeyE} {cps : List (Option Int)} {ns : List Str} {H0 H : Hp} {ss : List SvE} {fl : List Str} {b : SvE} (h : SvMade p t k ca l1 l2 s f ts ks cps ns H0 H ss fl) (n : SvNe p t k ca l1 l2 s f H0) (ht : H0 t ≠ none) (hk : H0 k ≠ none) (hb : SvOk H ts b) :
    SvMade p t k ca l1 l2 s f ts ks cps ns H0 (upd H s (.dK (svK (ss ++ [b])))) (ss ++ [b]) fl := by
  have m : ∀ c xs, H c = some (.tup xs) → upd H s (.dK (svK (ss ++ [b]))) c = some (.tup xs) := upd_tup h.sv (by intro _ z; cases z)
  have l : ∀ {c : Addr} {xs : List V}, H c = some (.lst xs) → upd H s (.dK (svK (ss ++ [b]))) c = some (.lst xs) := fun e => by
    rw [upd_ne (ne_of e h.sv (by intro z; cases z))]
    exact e
  have nts : t ≠ s := fun e => ht (by rw [e]; exact n.s0)
  have nks : k ≠ s := fun e => hk (by rw [e]; exact n.s0)
  refine ⟨h.chg.mut n.s0 n.sp, upd_same, l h.fil, l h.ord, l h.nam, by rw [upd_ne nts]; exact h.tabs, by rw [upd_ne nks]; exact h.keys, l h.caps, h.kok.mono m, fun c hc => ?_⟩
  rcases List.mem_append.mp hc with e | e
  · exact (h.ok c e).mono m
  · rw [List.mem_singleton.mp e]
    exact hb.mono m
def spServices : Sp := fun vs H Q _ => ∃ (p t k ca : Addr) (m more : Nat) (ts : List (Str × Int)) (ks : List KeyE) (cps : List (Option Int)), vs = [.ref p, .ref t, .ref k, .ref ca, .int (more : Int)] ∧ PoolAt H p ∧ H t = some (.dK (tabK ts)) ∧ H k = some (.dK (keyK ks)) ∧ Tabs ts m 100 ∧ 1 ≤ m ∧ m + more ≤ 26 ∧ Keys H ts ks ∧
  H ca = some (.lst (cps.map capV)) ∧ ca ≠ p ∧ 1 ≤ cps.length ∧ cps.length ≤ 100 ∧ (∀ c, some c ∈ cps → 1 ≤ c ∧ c ≤ 4) ∧
  ∀ (s : Addr) (ss : List SvE) (H' : Hp), H s = none → H' s = some (.dK (svK ss)) → Svcs H' ts ks ss (m + more) → Chg p H H' → Q (.ref s) H'
end
theorem lc_str {x : Str} {g : TG} {tt : TT} {te : TE} {vs : List Nat} {σ : L2.St} {H1 : Hp} {D : Addr} {Qd : Hp → Prop} (Pv : Nat → Hp → Prop) (h0 : Pv 0 (upd H1 D (.lst [])))
    (hs : ∀ i c H, x.cps[i]? = some c → Pv i H → g (.str ⟨#[c]⟩) (wipe σ vs) H fun σ2 H2 => wipe σ2 vs = wipe σ vs ∧ tt σ2 H2 fun b H3 =>
      if b = true then te σ2 H3 fun y H4 => ∃ acc, H4 D = some (.lst acc) ∧ acc.length < sizeLine ∧ Pv (i + 1) (upd H4 D (.lst (acc ++ [y]))) else Pv (i + 1) H3) (hd : ∀ H, Pv x.cps.size H → Qd H) :
    ∃ W : Nat → Nat → Hp → Prop, (∃ m, W 0 m (upd H1 D (.lst []))) ∧ ∀ i m H, W i m H →
      ((Its x).stop i H ∧ Qd H) ∨ ((Its x).go i H ∧ ∃ Nx : Hp → Prop, (∀ H', Nx H' → ∃ m', m' < m ∧ W (i + 1) m' H') ∧ ∀ v H', (Its x).yld i H v H' → g v (wipe σ vs) H' fun σ2 H2 => wipe σ2 vs = wipe σ vs ∧ tt σ2 H2 fun b H3 =>
        if b = true then te σ2 H3 fun y H4 => ∃ acc, H4 D = some (.lst acc) ∧ acc.length < sizeLine ∧ Nx (upd H4 D (.lst (acc ++ [y]))) else Nx H3) := by
  refine ⟨fun i m H => m = x.cps.size - i ∧ i ≤ x.cps.size ∧ Pv i H, ⟨x.cps.size, by simp, Nat.zero_le _, h0⟩, ?_⟩
  rintro i m H ⟨rfl, hi, p⟩
  by_cases hlt : i < x.cps.size
  · refine .inr ⟨hlt, Pv (i + 1), fun H' p' => ⟨x.cps.size - (i + 1), by omega, rfl, hlt, p'⟩, fun v H' y => ?_⟩
    obtain ⟨e, c, hc, ev⟩ := y
    subst e
    subst ev
    exact hs i c _ hc p
  · have e : i = x.cps.size := by omega
    subst e
    exact .inl ⟨Nat.le_refl _, hd H p⟩
/-! ### words and values -/
def okC (c : Nat) : Bool := decide (97 ≤ c ∧ c ≤ 122)
def wordB (s : Str) : Bool := decide (1 ≤ s.length ∧ s.length ≤ 8) && s.cps.toList.all okC
def wordV : V → Bool
  | .str s => wordB s
  | _ => false
def valV' : V → Bool
  | .int i => decide (-999999999999999999999999999999 ≤ i ∧ i ≤ 999999999999999999999999999999)
  | .str s => wordB s
  | _ => false
inductive Thg (H : Hp) : V → Prop
  | int (i : Int) : Thg H (.int i)
  | bl (b : Bool) : Thg H (.bl b)
  | non : Thg H .non
  | str (s : Str) (h : s.length ≤ 1000) (hc : ∀ c ∈ s.cps.toList, c < 128) : Thg H (.str s)
  | lst {a : Addr} {xs : List V} (e : H a = some (.lst xs)) : Thg H (.ref a)
  | tup {a : Addr} {xs : List V} (e : H a = some (.tup xs)) : Thg H (.ref a)
theorem Thg.same {H H' : Hp} {v : V} (h : Thg H v) (s : Same H H') : Thg H' v := by
  cases h with
  | int i => exact .int i
  | bl b => exact .bl b
  | non => exact .non
  | str s h hc => exact .str s h hc
  | lst e => exact .lst (s _ _ e)
  | tup e => exact .tup (s _ _ e)
def tyInt : V → Bool
  | .int _ => true
  | .bl _ => true
  | _ => false
def tyBool : V → Bool
  | .bl _ => true
  | _ => false
def plainV (v : V) : Bool := tyInt v && !tyBool v
def tyStr : V → Bool
  | .str _ => true
  | _ => false
section
variable {K : PySem.W.Frag} {H : Hp} {v : V} {Q : VK}
theorem Thg.ty (h : Thg H v) : ∃ n, TyX K H v (.type n) ∧ kitB n "int" = some (tyInt v) ∧ kitB n "bool" = some (tyBool v) ∧ kitB n "str" = some (tyStr v) := by
  cases h with
  | int i => exact ⟨_, .base (.int _), show kitB "int" "int" = some true by decide +kernel, show kitB "int" "bool" = some false by decide +kernel, show kitB "int" "str" = some false by decide +kernel⟩
  | bl b => exact ⟨_, .base (.bl _), show kitB "bool" "int" = some true by decide +kernel, show kitB "bool" "bool" = some true by decide +kernel, show kitB "bool" "str" = some false by decide +kernel⟩
  | non => exact ⟨_, .base .non, show kitB "NoneType" "int" = some false by decide +kernel, show kitB "NoneType" "bool" = some false by decide +kernel, show kitB "NoneType" "str" = some false by decide +kernel⟩
  | str s => exact ⟨_, .base (.str _), show kitB "str" "int" = some false by decide +kernel, show kitB "str" "bool" = some false by decide +kernel, show kitB "str" "str" = some true by decide +kernel⟩
  | lst e => exact ⟨_, .base (.lst e), show kitB "list" "int" = some false by decide +kernel, show kitB "list" "bool" = some false by decide +kernel, show kitB "list" "str" = some false by decide +kernel⟩
  | tup e => exact ⟨_, .base (.tup e), show kitB "tuple" "int" = some false by decide +kernel, show kitB "tuple" "bool" = some false by decide +kernel, show kitB "tuple" "str" = some false by decide +kernel⟩
end
def spB (f : V → Bool) : Sp := fun vs H Q _ => ∃ v : V, vs = [v] ∧ Thg H v ∧ ∀ H', Same H H' → Q (.bl (f v)) H'
theorem sgn_le {c : Nat} : ((!decide (([c] : List Nat) < [97])) && (!decide (([122] : List Nat) < [c]))) = okC c := by
  have h1 : (([c] : List Nat) < [97]) ↔ c < 97 := by rw [List.cons_lt_cons_iff]; simp
  have h2 : (([122] : List Nat) < [c]) ↔ 122 < c := by rw [List.cons_lt_cons_iff]; simp
  unfold okC
  simp only [h1, h2]
  by_cases a : c < 97 <;> by_cases b : 122 < c <;> simp [a, b] <;> omega
theorem sgn_in : ∀ {c : Nat}, decide (c ∈ ("abcdefghijklmnopqrstuvwxyz" : Str).cps.toList) = okC c := by
  intro c
  by_cases h : c < 128
  · exact (show ∀ c : Nat, c < 128 → decide (c ∈ ("abcdefghijklmnopqrstuvwxyz" : Str).cps.toList) = okC c by decide +kernel) c h
  · have e1 : okC c = false := by
      unfold okC
      exact decide_eq_false (by omega)
    rw [e1]
    refine decide_eq_false fun hm => ?_
    have := (show ∀ c ∈ ("abcdefghijklmnopqrstuvwxyz" : Str).cps.toList, c < 128 by decide +kernel) c hm
    omega
section
variable {P : Program} {w : World} {K : PySem.W.Frag} {mg : Str → Option Value} {base : Heap} {a : Nat → Addr} {d : Nat → FuncData}
theorem ok_plain (T : Txt K mg a d) : FnOk P w K mg base CX0 1 (a 11) (d 11) ["thing"] (spB plainV) := by
  refine T.F11.ok sc_is_plain_int (fun vs H Q E h => ?_) (fun cdv A outer s H vs Q E hr h => ?_)
  · obtain ⟨v, rfl, _⟩ := h
    rfl
  · obtain ⟨v, rfl, hv, q⟩ := h
    refine ⟨_, (pss_one (ps_ret (pe_and (pe_callB (id := "isinstance")  call_isi (by rfl) T.z_isinstance (by decide +kernel) (pa_cons (pv 0) (pa_cons (pe_bltn (v := .ty "int") (by rfl) T.z_int (by decide +kernel) rfl) pa_nil))) (pe_one (pe_not (pe_callB (id := "isinstance")  call_isi (by rfl) T.z_isinstance (by decide +kernel) (pa_cons (pv 0) (pa_cons (pe_bltn (v := .ty "bool") (by rfl) T.z_bool (by decide +kernel) rfl) pa_nil)))))))), ?_⟩
    obtain ⟨n, ht, k1, k2, k3⟩ := hv.ty (K := K)
    refine ⟨_, rfl, _, _, _, _, _, rfl, .ty _, ht, kit_ty k1, _, rfl, ?_⟩
    have q : Q (.bl (tyInt v && !tyBool v)) H := q H (Same.refl H)
    refine ite2 (fun e => ?_) (fun e => ?_)
    · rw [e] at q
      exact ⟨_, rfl, _, _, _, _, _, rfl, .ty _, ht, kit_ty k2, _, rfl, q⟩
    · rw [Bool.eq_false_iff.mpr e] at q
      exact q
theorem ok_is_word (T : Txt K mg a d) : FnOk P w K mg base CX0 1 (a 12) (d 12) ["thing"] (spB wordV) := by
  refine T.F12.ok sc_is_word (fun vs H Q E h => ?_) (fun cdv A outer s H vs Q E hr h => ?_)
  · obtain ⟨v, rfl, _⟩ := h
    rfl
  · obtain ⟨v, rfl, hv, q⟩ := h
    obtain ⟨t8, h_LONGEST_WORD⟩ := T.c_LONGEST_WORD
    refine ⟨_, (pss_cons (ps_if (PW.pt (pw_or (pt_not (pt_val (pe_callB (id := "isinstance")  call_isi (by rfl) T.z_isinstance (by decide +kernel) (pa_cons (pv 0) (pa_cons (pe_bltn (v := .ty "str") (by rfl) T.z_str (by decide +kernel) rfl) pa_nil))))) (pw_or1 (pt_not (pt_chain op_le op_le pe_int (pe_callB (id := "len")  call_len_str (by rfl) T.z_len (by decide +kernel) (pa_cons (pv 0) pa_nil)) (pe_glob (v := .int (8)) rfl h_LONGEST_WORD ⟨_, rfl⟩))))))
    (pss_one (ps_ret pe_bl))
    pss_nil)
  (pss_one (ps_ret (pe_callB (id := "all")  (cr_all rfl) (by rfl) T.z_all (by decide +kernel) (pa_cons (pe_lc (own := [("letter", 1)]) rfl sc_is_word.nd (pi_str (pv 0)) (blkOk_by (N := ["thing", "letter"]) (sc := defScope s_is_word) (by decide +kernel)) (fun _ _ _ _ _ => pg_name (i := 1) sc_is_word.nd rfl (.inl rfl)) (fun _ _ _ _ _ => pts_nil) (fun _ _ _ _ _ => (pe_chain op_le_str op_le_str pe_str (pv 1) pe_str))) pa_nil))))), ?_⟩
    obtain ⟨n, ht, k1, k2, k3⟩ := hv.ty (K := K)
    refine ⟨_, rfl, _, _, _, _, _, rfl, .ty _, ht, kit_ty k3, _, rfl, ?_⟩
    cases hv with
    | int i => exact q H (Same.refl H)
    | bl i => exact q H (Same.refl H)
    | non => exact q H (Same.refl H)
    | lst e => exact q H (Same.refl H)
    | tup e => exact q H (Same.refl H)
    | str s hl hc =>
      have q : ∀ H', Same H H' → Q (.bl (decide (1 ≤ s.length ∧ s.length ≤ 8) && s.cps.toList.all okC)) H' := q
      refine ⟨_, rfl, _, rfl, small1000' hl, _, _, rfl, rfl, _, rfl, ?_⟩
      refine ite_d (fun h1 => ?_) (fun h1 => ?_)
      · refine ⟨_, _, rfl, rfl, _, rfl, ?_⟩
        refine ite_nd (fun h2 => ?_) (fun h2 => ?_)
        · have e : decide (1 ≤ s.length ∧ s.length ≤ 8) = false := decide_eq_false (by omega)
          rw [e] at q
          exact q H (Same.refl H)
        · have e : decide (1 ≤ s.length ∧ s.length ≤ 8) = true := decide_eq_true (by omega)
          rw [e] at q
          refine ⟨_, rfl, _, rfl, fun D hD => ?_⟩
          refine lc_str (fun i H' => H' D = some (.lst (((s.cps.toList.take i).map okC).map V.bl)) ∧ Same H H') ⟨upd_same, same_upd hD⟩ (fun i c H' hx hp => ?_) (fun H' hp => ?_)
          · have hx' : s.cps.toList[i]? = some c := by rw [Array.getElem?_toList]; exact hx
            have hsz : (((s.cps.toList.take i).map okC).map V.bl).length < sizeLine := by
              rw [List.length_map, List.length_map, List.length_take]
              have : s.cps.toList.length = s.length := Array.length_toList
              exact small1000 (by omega)
            have step : ∀ b, b = okC c → ∀ H3, H3 = H' → (upd H3 D (.lst (((s.cps.toList.take i).map okC).map V.bl ++ [.bl b]))) D = some (.lst (((s.cps.toList.take (i + 1)).map okC).map V.bl)) ∧ Same H (upd H3 D (.lst (((s.cps.toList.take i).map okC).map V.bl ++ [.bl b]))) := fun b eb H3 e3 => by
              subst e3
              refine ⟨?_, fun x o ex => ?_⟩
              · rw [map_take hx', List.map_append, ← eb]
                exact upd_same
              · rw [upd_ne (ne_of_none ex hD)]
                exact hp.2 x o ex
            have e0 : ("a" : Str).cps.toList = [97] := by decide +kernel
            have e9 : ("z" : Str).cps.toList = [122] := by decide +kernel
            have eo := sgn_le (c := c)
            refine ⟨rfl, ?_⟩
            refine ⟨_, rfl, _, _, rfl, rfl, _, rfl, ?_⟩
            refine ite_nd (fun h3 => ?_) (fun h3 => ?_)
            · rw [e0] at h3
              have h3' : ¬ ([c] : List Nat) < [97] := h3
              rw [decide_eq_false h3'] at eo
              refine ⟨_, _, rfl, rfl, _, hp.1, hsz, step _ ?_ _ rfl⟩
              rw [e9]
              exact eo
            · rw [e0] at h3
              have h3' : ([c] : List Nat) < [97] := h3
              rw [decide_eq_true h3'] at eo
              exact ⟨_, hp.1, hsz, step _ eo _ rfl⟩
          · obtain ⟨h3, h4⟩ := hp
            have et : s.cps.toList.take s.cps.size = s.cps.toList := List.take_of_length_le (Nat.le_of_eq Array.length_toList)
            rw [et] at h3
            refine ⟨D, _, rfl, .of h3, ?_⟩
            have ea : ((s.cps.toList.map okC).all id) = s.cps.toList.all okC := by rw [List.all_map]; rfl
            rw [ea]
            exact q H' h4
      · have e : decide (1 ≤ s.length ∧ s.length ≤ 8) = false := decide_eq_false (by omega)
        rw [e] at q
        exact ⟨_, rfl, q H (Same.refl H)⟩
end
section
variable {P : Program} {w : World} {K : PySem.W.Frag} {mg : Str → Option Value} {base : Heap} {a : Nat → Addr} {d : Nat → FuncData}
theorem ok_is_value (T : Txt K mg a d) : FnOk P w K mg base CX0 2 (a 13) (d 13) ["thing"] (spB valV') := by
  have G11 : FnOk P w K mg base CX0 1 (a 11) (d 11) ["thing"] (spB plainV) := ok_plain T
  have G12 : FnOk P w K mg base CX0 1 (a 12) (d 12) ["thing"] (spB wordV) := ok_is_word T
  refine T.F13.ok sc_is_value (fun vs H Q E h => ?_) (fun cdv A outer s H vs Q E hr h => ?_)
  · obtain ⟨v, rfl, _⟩ := h
    rfl
  · obtain ⟨v, rfl, hv, q⟩ := h
    obtain ⟨t9, h_GREATEST_VALUE⟩ := T.c_GREATEST_VALUE
    refine ⟨_, (pss_cons (ps_if (pt_val (pe_call G11 (hr.mono (by decide)) (by rfl) T.g11 T.F11.kp T.b11 .nil pass0 (pa_cons (pv 0) pa_nil)))
    (pss_one (ps_ret (pe_chain op_le op_le (pe_un un_neg (pe_glob (v := .int (999999999999999999999999999999)) rfl h_GREATEST_VALUE ⟨_, rfl⟩)) (pv 0) (pe_glob (v := .int (999999999999999999999999999999)) rfl h_GREATEST_VALUE ⟨_, rfl⟩))))
    pss_nil)
  (pss_one (ps_ret (pe_call G12 (hr.mono (by decide)) (by rfl) T.g12 T.F12.kp T.b12 .nil pass0 (pa_cons (pv 0) pa_nil))))), ?_⟩
    refine ⟨_, rfl, v, rfl, hv, fun H1 s1 => ⟨_, rfl, ?_⟩⟩
    have word : ∀ H1, Same H H1 → valV' v = wordV v → tRet (tCall (spB wordV) [] (fun _ _ _ => False) (tCons (tVar 0) tNil)) { nx := fun _ H' => Q .non H', rt := Q } [some v] H1 := fun H1 s1 ev => ⟨_, rfl, v, rfl, hv.same s1, fun H2 s2 => by
      rw [← ev]
      exact q H2 (s1.trans s2)⟩
    cases hv with
    | int i =>
      refine ⟨_, rfl, _, rfl, _, _, rfl, rfl, _, rfl, ?_⟩
      have q1 := q H1 s1
      refine ite_d (fun h2 => ?_) (fun h2 => ?_)
      · refine ⟨_, _, rfl, rfl, ?_⟩
        have e : decide (i ≤ 999999999999999999999999999999) = decide (-999999999999999999999999999999 ≤ i ∧ i ≤ 999999999999999999999999999999) := by
          by_cases h3 : i ≤ 999999999999999999999999999999
          · rw [decide_eq_true h3, decide_eq_true ⟨h2, h3⟩]
          · rw [decide_eq_false h3, decide_eq_false (fun x => h3 x.2)]
        show Q (.bl (decide (i ≤ 999999999999999999999999999999))) H1
        rw [e]
        exact q1
      · have e : decide (-999999999999999999999999999999 ≤ i ∧ i ≤ 999999999999999999999999999999) = false := decide_eq_false (fun x => h2 x.1)
        have q1 : Q (.bl (decide (-999999999999999999999999999999 ≤ i ∧ i ≤ 999999999999999999999999999999))) H1 := q1
        rw [e] at q1
        exact q1
    | bl b => exact word H1 s1 rfl
    | non => exact word H1 s1 rfl
    | str s h hc => exact word H1 s1 rfl
    | lst e => exact word H1 s1 rfl
    | tup e => exact word H1 s1 rfl
end
theorem paired_snoc {α β : Type} {R : α → β → Prop} {x : α} {y : β} : ∀ {xs : List α} {ys : List β}, Paired R xs ys → R x y → Paired R (xs ++ [x]) (ys ++ [y])
  | _, _, .nil, h => .cons h .nil
  | _, _, .cons r t, h => .cons r (paired_snoc t h)
/-! ### rows of values: their order -/
abbrev RowK := List Key
def item : Key → Int ⊕ List Nat
  | .inl i => .inl i
  | .inr s => .inr s.cps.toList
theorem item_inj {a b : Key} (h : item a = item b) : a = b := by
  cases a <;> cases b
  · exact congrArg Sum.inl (Sum.inl.inj h)
  · cases h
  · cases h
  · rename_i x y
    have e : x.cps.toList = y.cps.toList := Sum.inr.inj h
    have e2 : x = y := by
      cases x
      cases y
      exact congrArg Str.mk (Array.toList_inj.mp e)
    rw [e2]
def toks (r : RowK) : List (Int ⊕ List Nat) := r.map item
def rowLt (a b : RowK) : Bool := PyProof.Rows.lexLt PyProof.Rows.itemOrd (toks a) (toks b)
def isStrK : Key → Bool
  | .inl _ => false
  | .inr _ => true
def keyD : Key → PyData
  | .inl i => .int i
  | .inr s => .str s
def pairD (k : Key) : PyData := .tuple [.bool (isStrK k), keyD k]
def rowD (r : RowK) : PyData := .tuple (r.map pairD)
def tokP : PyData → Int ⊕ List Nat
  | .tuple [_, .int i] => .inl i
  | .tuple [_, .str s] => .inr s.cps.toList
  | _ => .inl 0
def tokD : PyData → List (Int ⊕ List Nat)
  | .tuple ps => ps.map tokP
  | _ => []
theorem tokP_pair (k : Key) : tokP (pairD k) = item k := by cases k <;> rfl
theorem tokD_row (r : RowK) : tokD (rowD r) = toks r := by
  show (r.map pairD).map tokP = r.map item
  rw [List.map_map]
  exact List.map_congr_left fun k _ => tokP_pair k
theorem eqv_key (x y : Key) : PyData.eqv (keyD x) (keyD y) = decide (x = y) := by
  cases x <;> cases y <;> simp [keyD, PyData.eqv]
  · rename_i a b
    exact Bool.eq_iff_iff.mpr (by simp)
  · rename_i a b
    exact Bool.eq_iff_iff.mpr (by simp)
theorem eqv_pair (x y : Key) : PyData.eqv (pairD x) (pairD y) = decide (x = y) := by
  have h := eqv_key x y
  unfold pairD
  simp only [PyData.eqv, PyData.eqvAll, h, Bool.and_true]
  cases x <;> cases y <;> simp [isStrK]
theorem ok_pair {x y : Key} (h : x ≠ y) : SK.okLt (pairD x) (pairD y) = true := by
  have hk := eqv_key x y
  rw [decide_eq_false h] at hk
  cases x <;> cases y <;> simp [pairD, SK.okLt, SK.okAll, isStrK, PyData.eqv] <;> first | trivial | (rw [hk]; simp [keyD, SK.okLt])
theorem lt_pair {x y : Key} (h : x ≠ y) : SK.ltD (pairD x) (pairD y) = PyProof.Rows.itemLt (item x) (item y) := by
  have hk := eqv_key x y
  rw [decide_eq_false h] at hk
  cases x <;> cases y <;> simp [pairD, SK.ltD, SK.ltAll, isStrK, PyData.eqv]
  · rw [hk]
    simp [keyD, SK.ltD, item, PyProof.Rows.itemLt]
  · simp only [item, PyProof.Rows.itemLt]
    decide
  · simp only [item, PyProof.Rows.itemLt]
    decide
  · rw [hk]
    simp [keyD, SK.ltD, item, PyProof.Rows.itemLt, PyProof.Rows.strKind]
theorem item_total {x y : Key} (h : x ≠ y) : PyProof.Rows.itemLt (item y) (item x) = !PyProof.Rows.itemLt (item x) (item y) := by
  have a : PyProof.Rows.itemLt (item x) (item y) = false → PyProof.Rows.itemLt (item y) (item x) = false → item x = item y := PyProof.Rows.itemOrd.total _ _
  have b : PyProof.Rows.itemLt (item x) (item y) = true → PyProof.Rows.itemLt (item y) (item x) = true → False := fun h1 h2 => by
    have h3 := PyProof.Rows.itemOrd.trans _ _ _ h1 h2
    rw [PyProof.Rows.itemOrd.irrefl] at h3
    cases h3
  cases h1 : PyProof.Rows.itemLt (item x) (item y) <;> cases h2 : PyProof.Rows.itemLt (item y) (item x)
  · exact absurd (item_inj (a h1 h2)) h
  · rfl
  · rfl
  · exact (b h1 h2).elim
theorem rowLt_cons (x y : Key) (r t : RowK) : rowLt (x :: r) (y :: t) = if x = y then rowLt r t else PyProof.Rows.itemLt (item x) (item y) := by
  show (PyProof.Rows.itemLt (item x) (item y) || (!PyProof.Rows.itemLt (item y) (item x) && rowLt r t)) = _
  by_cases h : x = y
  · subst h
    rw [if_pos rfl, show PyProof.Rows.itemLt (item x) (item x) = false from PyProof.Rows.itemOrd.irrefl _]
    simp
  · rw [if_neg h, item_total h]
    cases PyProof.Rows.itemLt (item x) (item y) <;> simp
theorem ok_rows : ∀ a b : RowK, SK.okAll (a.map pairD) (b.map pairD) = true
  | [], _ => by cases ‹RowK› <;> simp [SK.okAll]
  | _ :: _, [] => by simp [SK.okAll]
  | x :: r, y :: t => by
    simp only [List.map_cons, SK.okAll, eqv_pair]
    by_cases h : x = y
    · rw [decide_eq_true h, if_pos rfl]
      exact ok_rows r t
    · rw [decide_eq_false h, if_neg (by decide)]
      exact ok_pair h
theorem lt_rows : ∀ a b : RowK, SK.ltAll (a.map pairD) (b.map pairD) = rowLt a b
  | [], [] => by simp [SK.ltAll, rowLt, toks, PyProof.Rows.lexLt]
  | [], _ :: _ => by simp [SK.ltAll, rowLt, toks, PyProof.Rows.lexLt]
  | _ :: _, [] => by simp [SK.ltAll, rowLt, toks, PyProof.Rows.lexLt]
  | x :: r, y :: t => by
    rw [rowLt_cons]
    simp only [List.map_cons, SK.ltAll, eqv_pair]
    by_cases h : x = y
    · rw [decide_eq_true h, if_pos rfl, if_pos h]
      exact lt_rows r t
    · rw [decide_eq_false h, if_neg (by decide), if_neg h]
      exact lt_pair h
theorem toks_inj : ∀ {a b : RowK}, toks a = toks b → a = b
  | [], [], _ => rfl
  | [], _ :: _, h => by cases h
  | _ :: _, [], h => by cases h
  | x :: r, y :: t, h => by
    have h1 : item x = item y := (List.cons.inj h).1
    have h2 : toks r = toks t := (List.cons.inj h).2
    rw [item_inj h1, toks_inj h2]
theorem rowLt_total {a b : RowK} (h1 : rowLt a b = false) (h2 : rowLt b a = false) : a = b := toks_inj ((PyProof.Rows.listOrd PyProof.Rows.itemOrd).total _ _ h1 h2)
theorem rowLt_trans {a b c : RowK} (h1 : rowLt a b = true) (h2 : rowLt b c = true) : rowLt a c = true := (PyProof.Rows.listOrd PyProof.Rows.itemOrd).trans _ _ _ h1 h2
theorem rowLt_irrefl (a : RowK) : rowLt a a = false := (PyProof.Rows.listOrd PyProof.Rows.itemOrd).irrefl _
theorem rowLt_neg {a b c : RowK} (h : rowLt a c = true) : rowLt a b = true ∨ rowLt b c = true := (PyProof.Rows.listOrd PyProof.Rows.itemOrd).negTrans _ _ _ h
/-- what may stand in a row: an int, a text of true code points -/
def KOk : Key → Prop
  | .inl _ => True
  | .inr s => PyData.strOk s = true
theorem lay_pair {k : Key} (h : KOk k) : (pairD k).canLay0 = true := by
  cases k with
  | inl i => simp [pairD, keyD, PyData.canLay0, PyData.canLayAll0]
  | inr s =>
    have h' : PyData.strOk s = true := h
    simp [pairD, keyD, PyData.canLay0, PyData.canLayAll0, h']
theorem lay_pairs : ∀ {r : RowK}, (∀ k ∈ r, KOk k) → PyData.canLayAll0 (r.map pairD) = true
  | [], _ => by simp [PyData.canLayAll0]
  | k :: r, h => by
    simp only [List.map_cons, PyData.canLayAll0, lay_pair (h k List.mem_cons_self), lay_pairs fun x hx => h x (List.mem_cons_of_mem _ hx), Bool.and_self]
theorem depth_pair (k : Key) : (pairD k).depth = 1 := by cases k <;> simp [pairD, keyD, PyData.depth, PyData.depthAll]
theorem depth_pairs : ∀ r : RowK, PyData.depthAll (r.map pairD) ≤ 1
  | [] => by simp [PyData.depthAll]
  | k :: r => by
    simp only [List.map_cons, PyData.depthAll, depth_pair]
    have := depth_pairs r
    omega
theorem rowD_depth (r : RowK) : (rowD r).depth ≤ 2 := by
  show PyData.depthAll (r.map pairD) + 1 ≤ 2
  have := depth_pairs r
  omega
theorem keys_rows (rs : List RowK) (h : ∀ r ∈ rs, ∀ k ∈ r, KOk k) : SK.Keys (rs.map rowD) tokD where
  lay d hd := by
    obtain ⟨r, hr, rfl⟩ := List.mem_map.mp hd
    show PyData.canLay0 (.tuple (r.map pairD)) = true
    simp only [PyData.canLay0]
    exact lay_pairs (h r hr)
  tup d hd := by
    obtain ⟨r, hr, rfl⟩ := List.mem_map.mp hd
    exact ⟨_, rfl⟩
  ok d hd d' hd' := by
    obtain ⟨r, hr, rfl⟩ := List.mem_map.mp hd
    obtain ⟨t, ht, rfl⟩ := List.mem_map.mp hd'
    show SK.okLt (.tuple (r.map pairD)) (.tuple (t.map pairD)) = true
    simp only [SK.okLt]
    exact ok_rows r t
  lt d hd d' hd' := by
    obtain ⟨r, hr, rfl⟩ := List.mem_map.mp hd
    obtain ⟨t, ht, rfl⟩ := List.mem_map.mp hd'
    rw [tokD_row, tokD_row]
    show SK.ltD (.tuple (r.map pairD)) (.tuple (t.map pairD)) = rowLt r t
    simp only [SK.ltD]
    exact lt_rows r t
  ty x r y t hx hy := by
    obtain ⟨a, ha, ea⟩ := List.mem_map.mp hx
    obtain ⟨b, hb, eb⟩ := List.mem_map.mp hy
    have first : ∀ (a : RowK) x r, rowD a = .tuple (x :: r) → ∃ ps, x = .tuple ps := fun a x r e => by
      cases a with
      | nil => cases e
      | cons k a =>
        have e' : PyData.tuple (pairD k :: a.map pairD) = .tuple (x :: r) := e
        injection e' with e'
        exact ⟨_, (List.cons.inj e').1.symm⟩
    obtain ⟨p1, rfl⟩ := first a x r ea
    obtain ⟨p2, rfl⟩ := first b y t eb
    rfl
/-! ### rows in the heap -/
/-- p is the tuple r -/
abbrev RowAt (H : Hp) (p : Addr) (r : RowK) : Prop := H p = some (.tup (r.map kV))
abbrev RowsAt (H : Hp) (L : List (Addr × RowK)) : Prop := ∀ b ∈ L, RowAt H b.1 b.2
theorem RowsAt.same {H H' : Hp} {L : List (Addr × RowK)} (h : RowsAt H L) (s : ∀ b o, H b = some o → H' b = some o) : RowsAt H' L := fun b hb => s _ _ (h b hb)
theorem snoc_ind {α : Type} {P : List α → Prop} (h0 : P []) (h1 : ∀ l a, P l → P (l ++ [a])) : ∀ l, P l := by
  intro l
  rw [← List.reverse_reverse l]
  induction l.reverse with
  | nil => exact h0
  | cons a t ih =>
    rw [List.reverse_cons]
    exact h1 _ _ ih
/-- the different rows, in the order of their first places -/
def add1 (acc : List RowK) (r : RowK) : List RowK := if (acc.any fun k => decide (k = r)) = true then acc else acc ++ [r]
def uniq (rs : List RowK) : List RowK := rs.foldl add1 []
theorem any_mem {acc : List RowK} {r : RowK} : (acc.any fun k => decide (k = r)) = true ↔ r ∈ acc := by
  rw [List.any_eq_true]
  constructor
  · rintro ⟨x, hx, e⟩
    rw [← of_decide_eq_true e]
    exact hx
  · exact fun h => ⟨r, h, decide_eq_true rfl⟩
theorem putK_uniq (ks : List RowK) (r : RowK) : (putK (ks.map fun k => (k, V.bl true)) r (.bl true)) = (add1 ks r).map fun k => (k, V.bl true) := by
  unfold putK add1
  have e : ((ks.map fun k => (k, V.bl true)).any fun kv => decide (kv.1 = r)) = (ks.any fun k => decide (k = r)) := by rw [List.any_map]; rfl
  rw [e]
  split
  · rw [List.map_map]
    exact List.map_congr_left fun k _ => by
      by_cases q : k = r
      · simp [q]
      · simp [q]
  · rw [List.map_append]
    rfl
theorem uniq_snoc (rs : List RowK) (r : RowK) : uniq (rs ++ [r]) = add1 (uniq rs) r := by
  unfold uniq
  rw [List.foldl_append]
  rfl
theorem uniq_all : ∀ rs : List RowK, (uniq rs).Nodup ∧ ∀ r, r ∈ uniq rs ↔ r ∈ rs := snoc_ind ⟨List.nodup_nil, fun r => Iff.rfl⟩ fun l a ih => by
  obtain ⟨h1, h2⟩ := ih
  rw [uniq_snoc]
  unfold add1
  by_cases h : ((uniq l).any fun k => decide (k = a)) = true
  · rw [if_pos h]
    refine ⟨h1, fun r => ?_⟩
    rw [h2, List.mem_append, List.mem_singleton]
    exact ⟨.inl, fun q => q.elim id fun e => by rw [e, ← h2]; exact any_mem.mp h⟩
  · rw [if_neg h]
    have h' : ¬ a ∈ uniq l := fun q => h (any_mem.mpr q)
    refine ⟨List.nodup_append.mpr ⟨h1, List.nodup_cons.mpr ⟨by simp, List.nodup_nil⟩, fun x hx y hy e => ?_⟩, fun r => ?_⟩
    · rw [List.mem_singleton.mp hy] at e
      exact h' (e ▸ hx)
    · rw [List.mem_append, List.mem_append, h2]
theorem uniq_len : ∀ rs : List RowK, (uniq rs).length ≤ rs.length := snoc_ind (Nat.le_refl _) fun l a ih => by
  rw [uniq_snoc, List.length_append]
  unfold add1
  split
  · exact Nat.le_succ_of_le ih
  · rw [List.length_append]
    exact Nat.add_le_add_right ih 1
/-- the rows sorted: each once, each before the next -/
structure SortedRows (L : List (Addr × RowK)) (rs : List RowK) : Prop where
  all : ∀ r, r ∈ L.map (·.2) ↔ r ∈ rs
  up : L.Pairwise fun a b => rowLt a.2 b.2 = true
  len : L.length ≤ rs.length
section
variable {P : Program} {w : World} {K : PySem.W.Frag} {mg : Str → Option Value} {base : Heap} {a : Nat → Addr} {d : Nat → FuncData}
/-! ### row_key, sorted_rows -/
def spRK : Sp := fun vs H Q _ => ∃ (p : Addr) (r : RowK), vs = [.ref p] ∧ RowAt H p r ∧ r.length ≤ 100 ∧ ∀ (K : PySem.W.Frag) (v : V) (H' : Hp), (∀ K : PySem.W.Frag, Dp K H' v (rowD r)) → Same H H' → Q v H'
theorem kb_int_str : kitB "int" "str" = some false := by decide +kernel
theorem kb_str_str : kitB "str" "str" = some true := by decide +kernel
theorem dp_pairs {K : PySem.W.Frag} {H : Hp} : ∀ {ps : List Addr} {r : RowK}, Paired (fun p k => H p = some (.tup [V.bl (isStrK k), kV k])) ps r → DpAll K H (ps.map V.ref) (r.map pairD)
  | _, _, .nil => .nil
  | _, _, .cons (b := k) h t => .cons (.tup (.of h) (.cons (.bl _) (.cons (by cases k <;> first | exact .int _ | exact .str _) .nil))) (dp_pairs t)
theorem ok_row_key (T : Txt K mg a d) : FnOk P w K mg base CX0 1 (a 16) (d 16) ["row"] spRK := by
  refine T.F16.ok sc_row_key (fun vs H Q E h => ?_) (fun cdv A outer s H vs Q E hr h => ?_)
  · obtain ⟨p, r, rfl, _⟩ := h
    rfl
  · obtain ⟨p, r, rfl, hp, hl, q⟩ := h
    refine ⟨_, (pss_one (ps_ret (pe_callTy (T := "tuple")  call_tuple_of (by rfl) T.z_tuple (by decide +kernel) (pa_cons (pe_lc (own := [("part", 1)]) rfl sc_row_key.nd (pi_tup (pv 0)) (blkOk_by (N := ["row", "part"]) (sc := defScope s_row_key) (by decide +kernel)) (fun _ _ _ _ _ => pg_name (i := 1) sc_row_key.nd rfl (.inl rfl)) (fun _ _ _ _ _ => pts_nil) (fun _ _ _ _ _ => (pe_tup (pa_cons (pe_callB (id := "isinstance") (r := rIsi K)  call_isi (by rfl) T.z_isinstance (by decide +kernel) (pa_cons (pv 1) (pa_cons (pe_bltn (v := .ty "str") (by rfl) T.z_str (by decide +kernel) rfl) pa_nil))) (pa_cons (pv 1) pa_nil))))) pa_nil)))), ?_⟩
    refine ⟨_, rfl, p, rfl, ⟨_, .of hp⟩, fun D hD => ?_⟩
    refine lc_tup (K := K) (a := p) (xs := r.map kV) (fun i H' => ∃ ps : List Addr, H' D = some (.lst (ps.map V.ref)) ∧ Same H H' ∧ Paired (fun p k => H' p = some (.tup [V.bl (isStrK k), kV k])) ps (r.take i)) ⟨[], upd_same, same_upd hD, by rw [List.take_zero]; exact .nil⟩ (fun i H' _ hp' => ?_) (fun i x H' hx hp' => ?_) (fun H' hp' => ?_)
    · obtain ⟨ps, _, sm, _⟩ := hp'
      exact .of (sm _ _ hp)
    · obtain ⟨ps, e1, sm, e2⟩ := hp'
      obtain ⟨k, hk, rfl⟩ := map_at hx
      have li : i < r.length := (List.getElem?_eq_some_iff.mp hk).1
      have lp : ps.length = (r.take i).length := Paired.length e2
      rw [List.length_take] at lp
      refine ⟨rfl, ?_⟩
      have isi : ∃ n, TyX K H' (kV k) (.type n) ∧ kitB n "str" = some (isStrK k) := by
        cases k with
        | inl i => exact ⟨_, .base (.int _), kb_int_str⟩
        | inr s => exact ⟨_, .base (.str _), kb_str_str⟩
      obtain ⟨n, ht, hb⟩ := isi
      refine ⟨_, rfl, _, _, _, _, _, rfl, .ty _, ht, kit_ty hb, _, rfl, by show 2 ≤ sizeLine; decide, fun c hc => ⟨ps.map V.ref, ?_, ?_, ps ++ [c], ?_, ?_, ?_⟩⟩
      · exact (same_upd hc) D _ e1
      · rw [List.length_map]
        exact small1000 (by omega)
      · rw [List.map_append]
        exact upd_same
      · exact fun b o e => by
          rw [upd_ne (ne_of_none e hD)]
          exact same_upd hc _ _ (sm b o e)
      · rw [List.take_add_one, hk]
        have cD : c ≠ D := fun z => by
          rw [z, e1] at hc
          cases hc
        have old : ∀ b xs, H' b = some (.tup xs) → (upd (upd H' c (.tup [V.bl (isStrK k), kV k])) D (.lst (ps.map V.ref ++ [.ref c]))) b = some (.tup xs) := fun b xs e => by
          rw [upd_ne (ne_of e e1 (by intro z; cases z)), upd_ne (ne_of_none e hc)]
          exact e
        refine paired_snoc (L2.Paired.mapP e2 fun _ _ e => old _ _ e) ?_
        rw [upd_ne cD]
        exact upd_same
    · obtain ⟨ps, e1, sm, e2⟩ := hp'
      rw [List.length_map, List.take_length] at e2
      refine ⟨D, _, rfl, .inl ⟨.of e1, fun t ht => ?_⟩⟩
      exact q K _ _ (fun K => .tup (.of upd_same) (dp_pairs (L2.Paired.mapP e2 fun _ _ e => same_upd ht _ _ e))) (sm.trans (same_upd ht))
def spSR (K : PySem.W.Frag) : Sp := fun vs H Q _ => ∃ (l : Addr) (L : List (Addr × RowK)), vs = [.ref l] ∧ SqL K H l (L.map fun b => V.ref b.1) ∧ RowsAt H L ∧ (∀ b ∈ L, (∀ k ∈ b.2, KOk k) ∧ b.2.length ≤ 100) ∧ L.length ≤ 10000 ∧
  ∀ (q : Addr) (H' : Hp) (L' : List (Addr × RowK)), H q = none → Same H H' → H' q = some (.lst (L'.map fun b => V.ref b.1)) → RowsAt H' L' → SortedRows L' (L.map (·.2)) → Q (.ref q) H'
theorem keys_zip {H : Hp} : ∀ {us : List RowK} {bs : List Addr}, Paired (fun (p : RowK × V) b => H b = some (.tup (p.1.map kV))) (us.map fun k => (k, V.bl true)) bs → ∃ L : List (Addr × RowK), L.map (·.1) = bs ∧ L.map (·.2) = us ∧ RowsAt H L
  | [], _, .nil => ⟨[], rfl, rfl, fun b hb => by cases hb⟩
  | u :: us, _, .cons (b := b) h t => by
    obtain ⟨L, e1, e2, e3⟩ := keys_zip t
    refine ⟨(b, u) :: L, by rw [List.map_cons, e1], by rw [List.map_cons, e2], fun x hx => ?_⟩
    rcases List.mem_cons.mp hx with rfl | hx
    · exact h
    · exact e3 x hx
theorem byKey_rows (L : List (Addr × RowK)) (hn : (L.map (·.2)).Nodup) : ∃ L' : List (Addr × RowK), SK.byKey tokD (L.map fun b => V.ref b.1) (L.map fun b => rowD b.2) = L'.map (fun b => V.ref b.1) ∧ L'.Perm L ∧ L'.Pairwise fun a b => rowLt a.2 b.2 = true := by
  refine ⟨L.mergeSort fun a b => !rowLt b.2 a.2, ?_, List.mergeSort_perm _ _, ?_⟩
  · unfold SK.byKey
    rw [List.zip_map', ← List.map_mergeSort (r := fun a b : Addr × RowK => !rowLt b.2 a.2) (f := fun b : Addr × RowK => ((V.ref b.1, rowD b.2) : V × PyData)), List.map_map]
    · rfl
    · intro a _ b _
      show _ = (!(PyProof.Rows.listOrd PyProof.Rows.itemOrd).blt (tokD (rowD b.2)) (tokD (rowD a.2)))
      rw [tokD_row, tokD_row]
      rfl
  · have h1 := List.pairwise_mergeSort (le := fun a b : Addr × RowK => !rowLt b.2 a.2) (fun a b c x y => ?_) (fun a b => ?_) L
    · have h2 : ((L.mergeSort fun a b => !rowLt b.2 a.2).map (·.2)).Nodup := ((List.mergeSort_perm L _).map _).nodup_iff.mpr hn
      refine (h1.and (List.pairwise_map.mp h2)).imp fun {a b} hab => ?_
      cases h3 : rowLt a.2 b.2 with
      | true => rfl
      | false => exact absurd (rowLt_total h3 (by simpa using hab.1)) hab.2
    · simp only [Bool.not_eq_true'] at x y ⊢
      cases h3 : rowLt c.2 a.2 with
      | false => rfl
      | true => rcases rowLt_neg (b := b.2) h3 with h | h
                · rw [y] at h
                  cases h
                · rw [x] at h
                  cases h
    · cases h3 : rowLt b.2 a.2 with
      | false => rfl
      | true =>
        have h4 : rowLt a.2 b.2 = false := by
          cases h5 : rowLt a.2 b.2 with
          | false => rfl
          | true =>
            have := rowLt_trans h3 h5
            rw [rowLt_irrefl] at this
            cases this
        rw [h4]
        rfl
theorem ok_sorted_rows (T : Txt K mg a d) : FnOk P w K mg base CX0 4 (a 17) (d 17) ["rows"] (spSR K) := by
  have G16 : FnOk P w K mg base CX0 1 (a 16) (d 16) ["row"] spRK := ok_row_key T
  refine T.F17.ok sc_sorted_rows (fun vs H Q E h => ?_) (fun cdv A outer s H vs Q E hr h => ?_)
  · obtain ⟨l, L, rfl, _⟩ := h
    rfl
  · obtain ⟨l, L, rfl, hS, hR, hok, hlen, q⟩ := h
    refine ⟨_, (pss_cons (DcT.ps_setDcT (i := 1) (own := [("row", 2)]) (hu_of hr) rfl sc_sorted_rows.nd rfl rfl (DcT.sw_dict rfl rfl rfl (by decide +kernel)) (pi_list (pv 0)) (blkOk_by (N := ["rows", "different", "row"]) (sc := defScope s_sorted_rows) (by decide +kernel)) (fun _ _ _ _ _ => pg_name (i := 2) sc_sorted_rows.nd rfl (.inl rfl)) (fun _ _ _ _ _ => pts_nil) (fun _ _ _ _ _ => (pv 2)) (fun _ _ _ _ _ => pe_bl))
  (pss_one (ps_ret (pe_callBK (SK.cr_sortF G16 (hr.mono (by decide)) T.b16 rfl) (by rfl) T.z_sorted (by decide +kernel) (pa_cons (pe_callTy (call_list_dT rfl) (by rfl) T.z_list (by decide +kernel) (pa_cons (pv 1) pa_nil)) pa_nil) (pk_cons (pe_glob (v := .ref (a 16)) (by rfl) T.g16 rfl) pk_nil))))), ?_⟩
    refine ⟨_, rfl, l, rfl, ⟨_, hS⟩, fun D hD => ?_⟩
    refine DcT.dcT_list (K := K) (a := l) (xs := L.map fun b => V.ref b.1) (fun i H' => H' D = some (.dT ((uniq ((L.take i).map (·.2))).map fun k => (k, V.bl true))) ∧ Same H H') ⟨upd_same, same_upd hD⟩ (fun i H' _ hp => hp.2.seq hS) (fun i x H' hx hp => ?_) (fun H1 hp => ?_)
    · obtain ⟨b, hb, rfl⟩ := map_at hx
      have li : i < L.length := (List.getElem?_eq_some_iff.mp hb).1
      have hbm : b ∈ L := List.mem_of_getElem? hb
      refine ⟨rfl, _, rfl, _, b.2, b.1, rfl, hp.2 _ _ (hR b hbm), hp.1, ?_, ?_, fun c o e => ?_⟩
      · rw [List.length_map]
        have h1 := uniq_len ((L.take i).map (·.2))
        rw [List.length_map, List.length_take] at h1
        exact Nat.lt_of_le_of_lt (by omega : _ ≤ 10000) (by decide)
      · rw [putK_uniq, map_take hb, uniq_snoc]
        exact upd_same
      · rw [upd_ne (ne_of_none e hD)]
        exact hp.2 c o e
    · obtain ⟨e1, sm⟩ := hp
      rw [List.length_map, List.take_length] at e1
      refine ⟨_, rfl, D, _, rfl, .inl e1, fun p bs hp hk => ?_⟩
      obtain ⟨L0, b1, b2, b3⟩ := keys_zip hk
      obtain ⟨nd, mem⟩ := uniq_all (L.map (·.2))
      have sp := same_upd (o := .lst (bs.map V.ref)) hp
      have hok0 : ∀ b ∈ L0, (∀ k ∈ b.2, KOk k) ∧ b.2.length ≤ 100 := fun b hb => by
        have h1 : b.2 ∈ L.map (·.2) := (mem _).mp (by rw [← b2]; exact List.mem_map.mpr ⟨b, hb, rfl⟩)
        obtain ⟨c, hc, e⟩ := List.mem_map.mp h1
        rw [← e]
        exact hok c hc
      obtain ⟨L', r1, r2, r3⟩ := byKey_rows L0 (by rw [b2]; exact nd)
      have ebs : bs.map V.ref = L0.map fun b => V.ref b.1 := by rw [← b1, List.map_map]; rfl
      refine ⟨p, L0.map (fun b => V.ref b.1), L0.map (fun b => rowD b.2), tokD, rfl, rfl, .of (by rw [← ebs]; exact upd_same), by rw [List.length_map, List.length_map], ?_, fun d hd => ?_, fun i x k hx hk H2 s2 => ?_, fun q' H2 nq s2 e2 => ?_⟩
      · have h1 := keys_rows (L0.map (·.2)) fun r hr k hkr => by
          obtain ⟨b, hb, rfl⟩ := List.mem_map.mp hr
          exact (hok0 b hb).1 k hkr
        rw [List.map_map] at h1
        exact h1.g
      · obtain ⟨b, hb, rfl⟩ := List.mem_map.mp hd
        exact Nat.le_trans (rowD_depth _) (by decide)
      · obtain ⟨b, hb, rfl⟩ := map_at hx
        obtain ⟨b', hb', rfl⟩ := map_at hk
        obtain rfl : b = b' := Option.some.inj (hb.symm.trans hb')
        have hbm : b ∈ L0 := List.mem_of_getElem? hb
        exact ⟨b.1, b.2, rfl, s2 _ _ (sp _ _ (b3 b hbm)), (hok0 b hbm).2, fun K' v H3 dp s3 => ⟨dp K, s3⟩⟩
      · rw [r1] at e2
        refine q q' H2 L' (sm.free (sp.free nq)) ((sm.trans sp).trans s2) e2 (fun b hb => s2 _ _ (sp _ _ (b3 b (r2.mem_iff.mp hb)))) ⟨fun r => ?_, r3, ?_⟩
        · rw [(r2.map _).mem_iff, b2]
          exact mem r
        · rw [r2.length_eq, ← List.length_map (f := (·.2)), b2]
          exact uniq_len _
end
/-! ### rows as data -/
theorem item_kinds {x y : Key} (h : isStrK x ≠ isStrK y) : PyProof.Rows.itemLt (item x) (item y) = isStrK y := by
  cases x <;> cases y <;> first | exact absurd rfl h | rfl
theorem lay_key {k : Key} (h : KOk k) : (keyD k).canLay0 = true := by
  cases k with
  | inl i => simp [keyD, PyData.canLay0]
  | inr s =>
    have h' : PyData.strOk s = true := h
    simp [keyD, PyData.canLay0, h']
theorem key_shaped {k : Key} (h : KOk k) : SeqAt.shaped (keyD k) = true := by
  unfold SeqAt.shaped
  rw [lay_key h]
  cases k <;> simp [keyD, PyData.depth]
theorem dp_key {K : PySem.W.Frag} {H : Hp} (k : Key) : Dp K H (kV k) (keyD k) := by
  cases k
  · exact .int _
  · exact .str _
theorem eqv_nil (ds : List PyData) : PyData.eqv (.list ds) (.list []) = ds.isEmpty := by
  cases ds <;> simp [PyData.eqv, PyData.eqvAll]
/-- a row as data -/
def tupD (r : RowK) : PyData := .tuple (r.map keyD)
theorem eqvAll_keys : ∀ a b : RowK, PyData.eqvAll (a.map keyD) (b.map keyD) = decide (a = b)
  | [], [] => by simp [PyData.eqvAll]
  | [], _ :: _ => by simp [PyData.eqvAll]
  | _ :: _, [] => by simp [PyData.eqvAll]
  | x :: a, y :: b => by
    simp only [List.map_cons, PyData.eqvAll, eqv_key, eqvAll_keys a b]
    by_cases h1 : x = y <;> by_cases h2 : a = b <;> simp [h1, h2]
theorem eqv_tup (a b : RowK) : PyData.eqv (tupD a) (tupD b) = decide (a = b) := by
  show PyData.eqv (.tuple (a.map keyD)) (.tuple (b.map keyD)) = _
  simp only [PyData.eqv]
  exact eqvAll_keys a b
theorem dp_keys {K : PySem.W.Frag} {H : Hp} : ∀ r : RowK, DpAll K H (r.map kV) (r.map keyD)
  | [] => .nil
  | k :: r => .cons (dp_key k) (dp_keys r)
theorem dp_tup {K : PySem.W.Frag} {H : Hp} {p : Addr} {r : RowK} (h : RowAt H p r) : Dp K H (.ref p) (tupD r) := .tup (.of h) (dp_keys r)
theorem lay_keys : ∀ {r : RowK}, (∀ k ∈ r, KOk k) → PyData.canLayAll0 (r.map keyD) = true ∧ PyData.depthAll (r.map keyD) = 0
  | [], _ => by simp [PyData.canLayAll0, PyData.depthAll]
  | k :: r, h => by
    obtain ⟨h1, h2⟩ := lay_keys (r := r) fun x hx => h x (List.mem_cons_of_mem _ hx)
    simp only [List.map_cons, PyData.canLayAll0, PyData.depthAll, lay_key (h k List.mem_cons_self), h1, h2, Bool.and_self, true_and]
    cases k <;> simp [keyD, PyData.depth]
theorem tup_shaped {r : RowK} (h : ∀ k ∈ r, KOk k) : SeqAt.shaped (tupD r) = true := by
  obtain ⟨h1, h2⟩ := lay_keys h
  show ((PyData.tuple (r.map keyD)).canLay0 && decide ((PyData.tuple (r.map keyD)).depth ≤ 64)) = true
  simp only [PyData.canLay0, PyData.depth, h1, h2]
  decide
theorem lay_tups : ∀ {rs : List RowK}, (∀ r ∈ rs, ∀ k ∈ r, KOk k) → PyData.canLayAll0 (rs.map tupD) = true ∧ PyData.depthAll (rs.map tupD) ≤ 1
  | [], _ => by simp [PyData.canLayAll0, PyData.depthAll]
  | r :: rs, h => by
    obtain ⟨h1, h2⟩ := lay_tups (rs := rs) fun x hx => h x (List.mem_cons_of_mem _ hx)
    obtain ⟨h3, h4⟩ := lay_keys (h r List.mem_cons_self)
    simp only [List.map_cons, PyData.canLayAll0, PyData.depthAll, h1, Bool.and_true]
    refine ⟨?_, ?_⟩
    · show (PyData.tuple (r.map keyD)).canLay0 = true
      simp only [PyData.canLay0, h3]
    · have : (tupD r).depth = 1 := by
        show (PyData.tuple (r.map keyD)).depth = 1
        simp only [PyData.depth, h4]
      omega
theorem tups_shaped {rs : List RowK} (h : ∀ r ∈ rs, ∀ k ∈ r, KOk k) : SeqAt.shaped (.list (rs.map tupD)) = true := by
  obtain ⟨h1, h2⟩ := lay_tups h
  unfold SeqAt.shaped
  simp only [PyData.canLay0, PyData.depth, h1, Bool.true_and]
  exact decide_eq_true (by omega)
theorem dp_rows {K : PySem.W.Frag} {H : Hp} : ∀ {L : List (Addr × RowK)}, RowsAt H L → DpAll K H (L.map fun b => V.ref b.1) ((L.map (·.2)).map tupD)
  | [], _ => .nil
  | b :: L, h => .cons (dp_tup (h b List.mem_cons_self)) (dp_rows fun x hx => h x (List.mem_cons_of_mem _ hx))
theorem any_tup (rs : List RowK) (r : RowK) : ((rs.map tupD).any fun z => PyData.eqv z (tupD r)) = rs.any fun k => decide (k = r) := by
  rw [List.any_map]
  have e : ((fun z => PyData.eqv z (tupD r)) ∘ tupD) = fun k => decide (k = r) := funext fun k => eqv_tup k r
  rw [e]
theorem nd_sub {α : Type} [DecidableEq α] : ∀ {xs ys : List α}, xs.Nodup → (∀ x ∈ xs, x ∈ ys) → xs.length ≤ ys.length ∧ (ys.length ≤ xs.length → ∀ y ∈ ys, y ∈ xs)
  | [], ys, _, _ => ⟨Nat.zero_le _, fun h y hy => by
    have : ys = [] := List.length_eq_zero_iff.mp (Nat.le_zero.mp h)
    rw [this] at hy
    exact hy⟩
  | x :: xs, ys, nd, sub => by
    obtain ⟨n1, n2⟩ := List.nodup_cons.mp nd
    have hx := sub x List.mem_cons_self
    have hl := List.length_erase_of_mem hx
    have hpos : 0 < ys.length := List.length_pos_of_mem hx
    have ih := nd_sub (ys := ys.erase x) n2 fun z hz => (List.mem_erase_of_ne (fun e => n1 (by rw [← e]; exact hz))).mpr (sub z (List.mem_cons_of_mem _ hz))
    refine ⟨by rw [List.length_cons]; omega, fun h y hy => ?_⟩
    rw [List.length_cons] at h
    by_cases e : y = x
    · rw [e]
      exact List.mem_cons_self
    · exact List.mem_cons_of_mem _ (ih.2 (by omega) y ((List.mem_erase_of_ne e).mpr hy))
theorem same_mut {H H1 : Hp} {D : Addr} {o : HO} (s : Same H H1) (h : H D = none) : Same H (upd H1 D o) := fun b u e => by
  rw [upd_ne (ne_of_none e h)]
  exact s b u e
theorem sv_nd {H : Hp} {ts : List (Str × Int)} {ks : List KeyE} {ss : List SvE} {n : Nat} (h : Svcs H ts ks ss n) : ((svK ss).map (·.1)).Nodup := by
  rw [keys_sv]
  exact inr_nd h.nm.nd
theorem Tabs.up {ts : List (Str × Int)} {m : Nat} {w v : Int} (h : Tabs ts m w) (hv : w ≤ v) : Tabs ts m v := ⟨h.nm, fun p hp => ⟨(h.wd p hp).1, Int.le_trans (h.wd p hp).2 hv⟩⟩
theorem wd_b {s : Str} (h : Wd s) : wordB s = true := by
  unfold wordB
  rw [decide_eq_true (show 1 ≤ s.length ∧ s.length ≤ 8 from ⟨h.1, h.2.1⟩), Bool.true_and, List.all_eq_true]
  intro c hc
  unfold okC
  exact decide_eq_true (h.2.2 c hc)
theorem wd_thg {H : Hp} {s : Str} (h : Wd s) : Thg H (.str s) := .str s (by have := h.2.1; omega) fun c hc => by have := (h.2.2 c hc).2; omega
theorem capV_none' {cap : Option Int} (h : cap.isNone = true) : capV cap = .non := by
  cases cap with
  | none => rfl
  | some c => cases h
theorem all_bls (bs : List Bool) : (bs.all id) = bs.all fun b => b := rfl
def spIsWh : Sp := fun vs H Q _ => ∃ (v t k ga : Addr) (n : Str) (cs : List Int) (cap : Option Int) (w : Int) (ts : List (Str × Int)) (ks : List KeyE) (m : Nat), vs = [.ref v, .ref t, .ref k] ∧ Told H v n ga cs cap ∧ DctAt H t (tabK ts) ∧ DctAt H k (keyK ks) ∧ Tabs ts m 4 ∧ Keys H ts ks ∧ (n, w) ∈ ts ∧ cs.length ≤ 100 ∧
  ∀ H', Same H H' → Q (.bl (isWh w ks n cs cap)) H'
section
variable {P : Program} {w : World} {K : PySem.W.Frag} {mg : Str → Option Value} {base : Heap} {a : Nat → Addr} {d : Nat → FuncData}
theorem ok_is_wh (T : Txt K mg a d) : FnOk P w K mg base CX0 1 (a 28) (d 28) ["service", "tables", "keys"] spIsWh := by
  refine T.F28.ok sc__is_whole_service (fun vs H Q E h => ?_) (fun cdv A outer s H vs Q E hr h => ?_)
  · obtain ⟨v, t, k, ga, n, cs, cap, w, ts, ks, m, rfl, _⟩ := h
    rfl
  · obtain ⟨v, t, k, ga, n, cs, cap, w, ts, ks, m, rfl, hv, ht, hk, hT, hK, hm, hl, q⟩ := h
    have fin : ∀ b : Bool, b = isWh w ks n cs cap → ∀ H', Same H H' → Q (.bl b) H' := fun b e H' s => by
      rw [e]
      exact q H' s
    have g := ht.get (tab_nd hT) (Sum.inr n)
    rw [tab_val hT hm] at g
    have gk := fun (H' : Hp) (s : Same H H') => (hk.same s).get (key_nd hT hK) (Sum.inr n)
    rw [keyAt_val] at gk
    refine ⟨_, (pss_cons (ps_asg (pv 0) (pg_tup rfl (pgs_cons (pg_name (i := 3) sc__is_whole_service.nd rfl (.inl rfl)) (pgs_cons (pg_name (i := 4) sc__is_whole_service.nd rfl (.inr rfl)) (pgs_cons (pg_name (i := 5) sc__is_whole_service.nd rfl (.inl rfl)) pgs_nil)))))
  (pss_cons (ps_if (PW.pt (pw_or (pt_cmpR op_isN (pv 5) pe_non (nomark _)) (pw_or1 (pt_cmpR op_eq (pe_callB (id := "len")  call_len_seq (by rfl) T.z_len (by decide +kernel) (pa_cons (pv 4) pa_nil)) (pe_dget (hu_of hr) (pv 1) (pv 3) (fun _ _ => rfl)) (nomark _)))))
    (pss_one (ps_ret pe_bl))
    pss_nil)
  (pss_one (ps_ret (pe_and (pe_cmp (pc_din (hu_of hr) (pv 3) (pv 2)) rfl) (pe_one (pe_callB (id := "all")  (cr_all rfl) (by rfl) T.z_all (by decide +kernel) (pa_cons (pe_lc (own := [("column", 6)]) rfl sc__is_whole_service.nd (pi_tup (pe_dget (hu_of hr) (pv 2) (pv 3) (fun _ _ => rfl))) (blkOk_by (N := ["service", "tables", "keys", "table", "given", "cap", "column"]) (sc := defScope s__is_whole_service) (by decide +kernel)) (fun _ _ _ _ _ => pg_name (i := 6) sc__is_whole_service.nd rfl (.inl rfl)) (fun _ _ _ _ _ => pts_nil) (fun _ _ _ _ _ => (pe_cmpR (r := rIn K false) op_in_seq (pv 6) (pv 4) (by rfl)))) pa_nil)))))))), ?_⟩
    refine ⟨_, rfl, v, _, rfl, .of hv.tup, rfl, _, _, rfl, _, _, rfl, _, _, rfl, rfl, ?_⟩
    refine ⟨_, rfl, rfl, _, rfl, ?_⟩
    rw [capV_none]
    cases e1 : cap.isNone with
    | true => exact fin true (by unfold isWh; rw [e1]; rfl) H (fun _ _ e => e)
    | false =>
      refine ⟨_, rfl, _, _, rfl, .inr (.of hv.cols), _, rfl, _, rfl, t, _, rfl, g, rfl, _, rfl, ?_⟩
      rw [List.length_map]
      refine ite_eqI (fun e2 => ?_) (fun e2 => ?_)
      · exact fin true (by unfold isWh; rw [e1, decide_eq_true e2]; rfl) H (fun _ _ e => e)
      · refine ⟨_, rfl, _, rfl, k, _, rfl, gk H (Same.refl H), _, rfl, ?_⟩
        cases e3 : keyAt ks n with
        | none => exact fin false (by unfold isWh; rw [e1, decide_eq_false e2, e3]; rfl) H (fun _ _ e => e)
        | some b =>
          rw [e3] at gk
          obtain ⟨bm, bn⟩ := keyAt_mem e3
          have hb := hK.at_ b bm
          obtain ⟨w', hw', hcols', hl1, hl2⟩ := hK.ok b bm
          have hw2 := (hT.wd _ hw').2
          refine ⟨_, rfl, _, rfl, k, _, rfl, gk H (Same.refl H), b.2.1, rfl, ⟨_, .of hb⟩, fun D hD => ?_⟩
          refine lc_tup (K := K) (a := b.2.1) (xs := b.2.2.map V.int) (fun i H' => H' D = some (.lst (((b.2.2.take i).map fun c => decide (c ∈ cs)).map V.bl)) ∧ Same H H') ⟨upd_same, same_upd hD⟩ (fun i H' _ hp => .of (hp.2 _ _ hb)) (fun i x H' hx hp => ?_) (fun H' hp => ?_)
          · obtain ⟨h1, h2⟩ := hp
            obtain ⟨c, hcx, rfl⟩ := map_at hx
            have hi : i < b.2.2.length := (List.getElem?_eq_some_iff.mp hcx).1
            refine ⟨rfl, ?_⟩
            refine ⟨_, rfl, _, rfl, ga, _, rfl, .inr (.of (h2 _ _ hv.cols)), rfl, flat_ints _, _, h1, ?_, ?_, ?_⟩
            · rw [List.length_map, List.length_map, List.length_take]
              exact Nat.lt_of_le_of_lt (by omega : _ ≤ 100) (by decide)
            · rw [map_take hcx, List.map_append]
              refine Eq.trans upd_same ?_
              show some (HO.lst (_ ++ [V.bl (inV (.int c) (cs.map V.int))])) = _
              rw [inV_ints]
              rfl
            · intro x o ex
              rw [upd_ne (ne_of_none ex hD)]
              exact h2 x o ex
          · obtain ⟨h1, h2⟩ := hp
            rw [List.length_map, List.take_length] at h1
            refine ⟨D, _, rfl, .of h1, ?_⟩
            refine fin _ ?_ _ h2
            unfold isWh
            rw [e1, decide_eq_false e2, e3, List.all_map]
            rfl
end
theorem perm_map_ex {α β : Type} {f : α → β} {ys zs : List β} (h : ys.Perm zs) : ∀ xs : List α, zs = xs.map f → ∃ L : List α, L.Perm xs ∧ L.map f = ys := by
  induction h with
  | nil =>
    intro xs e
    cases xs with
    | nil => exact ⟨[], .refl _, rfl⟩
    | cons x xs => cases e
  | cons y p ih =>
    intro xs e
    cases xs with
    | nil => cases e
    | cons x xs =>
      rw [List.map_cons] at e
      injection e with e1 e2
      obtain ⟨L, h1, h2⟩ := ih xs e2
      exact ⟨x :: L, h1.cons x, by rw [List.map_cons, h2, e1]⟩
  | swap y z l =>
    intro xs e
    cases xs with
    | nil => cases e
    | cons x xs =>
      cases xs with
      | nil => cases e
      | cons x' xs =>
        rw [List.map_cons, List.map_cons] at e
        injection e with e1 e2
        injection e2 with e2 e3
        exact ⟨x' :: x :: xs, .swap _ _ _, by rw [List.map_cons, List.map_cons, e1, e2, e3]⟩
  | trans p q ih1 ih2 =>
    intro xs e
    obtain ⟨L, h1, h2⟩ := ih2 xs e
    obtain ⟨M, h3, h4⟩ := ih1 L h2.symm
    exact ⟨M, h3.trans h1, h4⟩
/-- what sorted(d) is asked and gives -/
theorem DctAt.names {α : Type} {H : Hp} {t : Addr} {xs : List α} {g : α → Key × V} {f : α → Str} (h : DctAt H t (xs.map g)) (hg : ∀ x, (g x).1 = Sum.inr (f x)) (hl : xs.length < 64) :
    ∃ ks zs, H t = some (.dK ks) ∧ ks.length = xs.length ∧ ks.map (·.1) = zs.map Sum.inr ∧ zs.length < 64 ∧ zs.Perm (xs.map f) ∧ ∀ ys : List Str, ys.Perm zs → ∃ L : List α, L.Perm xs ∧ L.map f = ys := by
  obtain ⟨ks, e, p⟩ := h
  obtain ⟨L, h1, h2⟩ := perm_map_ex p xs rfl
  refine ⟨ks, L.map f, e, ?_, ?_, ?_, h1.map f, fun ys hy => ?_⟩
  · rw [← h2, List.length_map, h1.length_eq]
  · rw [← h2, List.map_map, List.map_map]
    exact List.map_congr_left fun x _ => hg x
  · rw [List.length_map, h1.length_eq]
    exact hl
  · obtain ⟨M, h3, h4⟩ := perm_map_ex hy L rfl
    exact ⟨M, h3.trans h1, h4⟩
theorem key_val {H : Hp} {ts : List (Str × Int)} {ks : List KeyE} {m : Nat} {wm : Int} (hT : Tabs ts m wm) (h : Keys H ts ks) {b : KeyE} (hb : b ∈ ks) : valV (keyK ks) (Sum.inr b.1) = some (.ref b.2.1) :=
  val_nodup (kvs := keyK ks) (key_nd hT h) (Sum.inr b.1, V.ref b.2.1) (List.mem_map.mpr ⟨b, hb, rfl⟩)
theorem sv_val {H : Hp} {ts : List (Str × Int)} {ks : List KeyE} {ss : List SvE} {n : Nat} (h : Svcs H ts ks ss n) {b : SvE} (hb : b ∈ ss) : valV (svK ss) (Sum.inr b.name) = some (.ref b.at_) :=
  val_nodup (kvs := svK ss) (sv_nd h) (Sum.inr b.name, V.ref b.at_) (List.mem_map.mpr ⟨b, hb, rfl⟩)
theorem fillE_perm {ts : List (Str × Int)} {ks : List KeyE} {a b : List SvE} (p : a.Perm b) : (fillE ts ks a).Perm (fillE ts ks b) := (p.filter _).map _
theorem fillE_take {ts : List (Str × Int)} {ks : List KeyE} (L : List SvE) (i : Nat) : (fillE ts ks (L.take i)).Sublist (fillE ts ks L) := ((List.take_sublist i L).filter _).map _
theorem rising_pw : ∀ (l : List Str) (p : Str), PyProof.Rows.risingS p l = true → (p :: l).Pairwise fun a b => a.cps.toList ≤ b.cps.toList
  | [], p, _ => List.pairwise_singleton _ _
  | x :: r, p, h => by
    have h' : (!PySem.Spec.ltCps x.cps.toList p.cps.toList && PyProof.Rows.risingS x r) = true := h
    rw [Bool.and_eq_true] at h'
    obtain ⟨h1, h2⟩ := h'
    have ih := rising_pw r x h2
    have hpx : p.cps.toList ≤ x.cps.toList := by
      rw [PyProof.Rows.ltCps_eq] at h1
      have h3 : ¬ x.cps.toList < p.cps.toList := by simpa using h1
      exact h3
    refine List.pairwise_cons.mpr ⟨fun y hy => ?_, ih⟩
    rcases List.mem_cons.mp hy with rfl | hy
    · exact hpx
    · exact List.le_trans hpx ((List.pairwise_cons.mp ih).1 y hy)
theorem sorted_pw {l : List Str} (h : PyProof.Rows.sortedS l = true) : l.Pairwise fun a b => a.cps.toList ≤ b.cps.toList := by
  cases l with
  | nil => exact .nil
  | cons x r => exact rising_pw r x h
theorem sorted_uniq {a b : List Str} (p : a.Perm b) (ha : PyProof.Rows.sortedS a = true) (hb : PyProof.Rows.sortedS b = true) : a = b := by
  refine List.Perm.eq_of_pairwise (le := fun a b : Str => a.cps.toList ≤ b.cps.toList) (fun x y _ _ h1 h2 => ?_) (sorted_pw ha) (sorted_pw hb) p
  have e := List.le_antisymm h1 h2
  cases x
  cases y
  congr
  exact Array.toList_inj.mp e
theorem dc_list {K : PySem.W.Frag} {a : Addr} {xs : List V} {g : TG} {tt : TT} {tk tv : TE} {vs : List Nat} {σ : L2.St} {H1 : Hp} {D : Addr} {Qd : Hp → Prop} (Pv : Nat → Hp → Prop) (h0 : Pv 0 (upd H1 D (.dK []))) (hl : ∀ i H, i ≤ xs.length → Pv i H → SqL K H a xs)
    (hs : ∀ i x H, xs[i]? = some x → Pv i H → g x (wipe σ vs) H fun σ2 H2 => wipe σ2 vs = wipe σ vs ∧ tt σ2 H2 fun b H3 =>
      if b = true then tk σ2 H3 fun y H4 => tv σ2 H4 fun z H5 => ∃ kvs k, y = kV k ∧ H5 D = some (.dK kvs) ∧ kvs.length < sizeLine ∧ Pv (i + 1) (upd H5 D (.dK (putK kvs k z))) else Pv (i + 1) H3) (hd : ∀ H, Pv xs.length H → Qd H) :
    ∃ W : Nat → Nat → Hp → Prop, (∃ m, W 0 m (upd H1 D (.dK []))) ∧ ∀ i m H, W i m H →
      ((Itl K a).stop i H ∧ Qd H) ∨ ((Itl K a).go i H ∧ ∃ Nx : Hp → Prop, (∀ H', Nx H' → ∃ m', m' < m ∧ W (i + 1) m' H') ∧ ∀ x H', (Itl K a).yld i H x H' → g x (wipe σ vs) H' fun σ2 H2 => wipe σ2 vs = wipe σ vs ∧ tt σ2 H2 fun b H3 =>
        if b = true then tk σ2 H3 fun y H4 => tv σ2 H4 fun z H5 => ∃ kvs k, y = kV k ∧ H5 D = some (.dK kvs) ∧ kvs.length < sizeLine ∧ Nx (upd H5 D (.dK (putK kvs k z))) else Nx H3) := by
  refine ⟨fun i m H => m = xs.length - i ∧ i ≤ xs.length ∧ Pv i H, ⟨xs.length, by simp, Nat.zero_le _, h0⟩, ?_⟩
  rintro i m H ⟨rfl, hi, p⟩
  have q := hl i H hi p
  rcases Nat.lt_or_ge i xs.length with lt | ge
  · refine .inr ⟨⟨xs, xs[i], q, by simp [lt]⟩, Pv (i + 1), fun H' p' => ⟨xs.length - (i + 1), by omega, rfl, lt, p'⟩, fun x H' y => ?_⟩
    obtain ⟨e, y⟩ := y
    subst e
    exact hs i x _ (y xs q) p
  · obtain rfl : i = xs.length := by omega
    exact .inl ⟨⟨xs, q, Nat.le_refl _⟩, hd H p⟩
def spCopied : Sp := fun vs H Q _ => ∃ (t : Addr) (kvs : List (Key × V)) (names : List Str), vs = [.ref t] ∧ DctAt H t kvs ∧ kvs.map (·.1) = names.map Sum.inr ∧ names.Nodup ∧ names.length < 64 ∧ ∀ D H', H D = none → DctAt H' D kvs → Same H H' → Q (.ref D) H'
section
variable {P : Program} {w : World} {K : PySem.W.Frag} {mg : Str → Option Value} {base : Heap} {a : Nat → Addr} {d : Nat → FuncData}
theorem ok_copied (T : Txt K mg a d) : FnOk P w K mg base CX0 1 (a 33) (d 33) ["things"] spCopied := by
  refine T.F33.ok sc__copied (fun vs H Q E h => ?_) (fun cdv A outer s H vs Q E hr h => ?_)
  · obtain ⟨t, kvs, names, rfl, _⟩ := h
    rfl
  · obtain ⟨t, kvs, names, rfl, ht, hk, hnd, h64, q⟩ := h
    have nd : (kvs.map (·.1)).Nodup := by
      rw [hk]
      exact inr_nd hnd
    obtain ⟨kd, e, pk⟩ := id ht
    have pk' := pk.map (·.1)
    rw [hk] at pk'
    obtain ⟨zs, z1, z2⟩ := perm_map_ex pk' names rfl
    refine ⟨_, (pss_one (ps_ret (pe_dc (own := [("name", 1)]) rfl sc__copied.nd (pi_list (pe_callB (id := "sorted")  (call_sortedD rfl) (by rfl) T.z_sorted (by decide +kernel) (pa_cons (pv 0) pa_nil))) (blkOk_by (N := ["things", "name"]) (sc := defScope s__copied) (by decide +kernel)) (fun _ _ _ _ _ => pg_name (i := 1) sc__copied.nd rfl (.inl rfl)) (fun _ _ _ _ _ => pts_nil) (fun _ _ _ _ _ => (pv 1)) (fun _ _ _ _ _ => (pe_dget (hu_of hr) (pv 0) (pv 1) (fun _ _ => rfl)))))), ?_⟩
    refine ⟨_, rfl, t, kd, zs, rfl, .inl e, z2.symm, by rw [z1.length_eq]; exact h64, fun ys p yp _ hp => ⟨p, rfl, ?_⟩⟩
    have s0 := same_upd (o := .lst (ys.map V.str)) hp
    have yn : ys.Perm names := yp.trans z1
    have ynd : ys.Nodup := yn.nodup_iff.mpr hnd
    have yl : ys.length < 64 := by rw [yn.length_eq]; exact h64
    refine ⟨⟨_, .of upd_same⟩, fun D hD => ?_⟩
    have hD0 : H D = none := s0.free hD
    have npD : p ≠ D := ne_of_none upd_same hD
    have pairs : ∀ zs : List Str, zs.Perm names → (zs.map fun n => ((Sum.inr n : Key), (valV kvs (Sum.inr n)).getD .non)).Perm kvs := fun zs hz => by
      refine (hz.map _).trans (List.Perm.of_eq ?_)
      have e1 : (names.map fun n => ((Sum.inr n : Key), (valV kvs (Sum.inr n)).getD .non)) = (kvs.map (·.1)).map fun k => (k, (valV kvs k).getD .non) := by
        rw [hk, List.map_map]
        rfl
      rw [e1, List.map_map]
      refine Eq.trans (List.map_congr_left (g := id) fun x hx => ?_) (List.map_id _)
      show (x.1, (valV kvs x.1).getD .non) = x
      rw [val_nodup nd x hx]
      rfl
    refine dc_list (K := K) (a := p) (xs := ys.map V.str) (fun i H' => H' D = some (.dK ((ys.take i).map fun n => ((Sum.inr n : Key), (valV kvs (Sum.inr n)).getD .non))) ∧ Same (upd H p (.lst (ys.map V.str))) H') ⟨upd_same, same_upd hD⟩ (fun i H' _ hp => .of (hp.2 _ _ upd_same)) (fun i x H' hx hp => ?_) (fun H' hp => ?_)
    · obtain ⟨h1, h2⟩ := hp
      obtain ⟨n, hn, rfl⟩ := map_at hx
      have hmem : n ∈ names := yn.mem_iff.mp (List.mem_of_getElem? hn)
      have hv : ∃ v, valV kvs (Sum.inr n) = some v := by
        have : (Sum.inr n : Key) ∈ kvs.map (·.1) := by
          rw [hk]
          exact List.mem_map.mpr ⟨n, hmem, rfl⟩
        obtain ⟨x, hx, e⟩ := List.mem_map.mp this
        exact ⟨x.2, by rw [← e]; exact val_nodup nd x hx⟩
      obtain ⟨v, hv⟩ := hv
      refine ⟨rfl, _, rfl, _, rfl, _, rfl, t, v, rfl, (ht.same (s0.trans h2)).at_ nd hv, _, Sum.inr n, rfl, h1, ?_, ?_, ?_⟩
      · rw [List.length_map, List.length_take]
        exact small1000 (by omega)
      · rw [map_take hn, hv]
        refine Eq.trans upd_same (congrArg (fun x => some (HO.dK x)) ?_)
        rw [putK_new _ (valV_no ?_)]
        · rfl
        · rw [List.map_map]
          exact inr_no (nd_take ynd hn)
      · intro x o ex
        rw [upd_ne (ne_of_none ex hD)]
        exact h2 x o ex
    · obtain ⟨h1, h2⟩ := hp
      rw [List.length_map, List.take_length] at h1
      exact q D H' hD0 ⟨_, h1, pairs ys yn⟩ (s0.trans h2)
end
def fldsS (d1 d2 d3 : Addr) : List (Str × V) := putF "_services" (.ref d3) (putF "_keys" (.ref d2) (putF "_tables" (.ref d1) []))
theorem flds_t (d1 d2 d3 : Addr) : (fldsS d1 d2 d3).lookup ("_tables" : Str) = some (V.ref d1) := by
  unfold fldsS
  rw [lookup_putF, if_neg (by decide +kernel), lookup_putF, if_neg (by decide +kernel), lookup_putF, if_pos rfl]
theorem flds_k (d1 d2 d3 : Addr) : (fldsS d1 d2 d3).lookup ("_keys" : Str) = some (V.ref d2) := by
  unfold fldsS
  rw [lookup_putF, if_neg (by decide +kernel), lookup_putF, if_pos rfl]
theorem flds_s (d1 d2 d3 : Addr) : (fldsS d1 d2 d3).lookup ("_services" : Str) = some (V.ref d3) := by
  unfold fldsS
  rw [lookup_putF, if_pos rfl]
theorem flds_no (d1 d2 d3 : Addr) {m : Str} (h1 : ¬ m = "_services") (h2 : ¬ m = "_keys") (h3 : ¬ m = "_tables") : (fldsS d1 d2 d3).lookup m = none := by
  unfold fldsS
  rw [lookup_putF, if_neg h1, lookup_putF, if_neg h2, lookup_putF, if_neg h3]
  rfl
theorem DctAt.but {H H' : Hp} {t p : Addr} {kvs : List (Key × V)} {C dx : Addr} {fs : List (Str × V)} (h : DctAt H t kvs) (hp : H p = some (.ins C dx fs)) (s : ∀ b o, b ≠ p → H b = some o → H' b = some o) : DctAt H' t kvs := by
  obtain ⟨ks, e, q⟩ := h
  exact ⟨ks, s _ _ (ne_of e hp (by intro z; cases z)) e, q⟩
/-! ### dicts with the same pairs in any order -/
section
variable {P : Program} {w : World} {K : PySem.W.Frag} {mg : Str → Option Value} {base : Heap} {a : Nat → Addr} {d : Nat → FuncData}
/-! ### the small ones -/
def spCount : Sp := fun vs H Q _ => ∃ (i m : Int), vs = [.int i, .int m] ∧ ∀ H', Same H H' → Q (.bl (decide (1 ≤ i ∧ i ≤ m))) H'
theorem ok_count (T : Txt K mg a d) : FnOk P w K mg base CX0 2 (a 23) (d 23) ["thing", "most"] spCount := by
  have G11 : FnOk P w K mg base CX0 1 (a 11) (d 11) ["thing"] (spB plainV) := ok_plain T
  refine T.F23.ok sc__is_count (fun vs H Q E h => ?_) (fun cdv A outer s H vs Q E hr h => ?_)
  · obtain ⟨i, m, rfl, _⟩ := h
    rfl
  · obtain ⟨i, m, rfl, q⟩ := h
    refine ⟨_, (pss_one (ps_ret (pe_and (pe_call G11 (hr.mono (by decide)) (by rfl) T.g11 T.F11.kp T.b11 .nil pass0 (pa_cons (pv 0) pa_nil)) (pe_one (pe_chain op_le op_le pe_int (pv 0) (pv 1)))))), ?_⟩
    refine ⟨_, rfl, _, rfl, .int i, fun H1 s1 => ⟨_, rfl, ?_⟩⟩
    refine ⟨_, rfl, _, _, rfl, rfl, _, rfl, ite_d (fun h1 => ?_) (fun h1 => ?_)⟩
    · refine ⟨_, rfl, _, _, rfl, rfl, ?_⟩
      have := q H1 s1
      show Q (.bl (decide (i ≤ m))) H1
      by_cases h2 : i ≤ m
      · rw [decide_eq_true (show 1 ≤ i ∧ i ≤ m from ⟨h1, h2⟩)] at this
        rw [decide_eq_true h2]
        exact this
      · rw [decide_eq_false (fun z : 1 ≤ i ∧ i ≤ m => h2 z.2)] at this
        rw [decide_eq_false h2]
        exact this
    · have := q H1 s1
      rw [decide_eq_false (fun z : 1 ≤ i ∧ i ≤ m => h1 z.1)] at this
      exact this
def spNameIn : Sp := fun vs H Q _ => ∃ (n : Str) (t : Addr) (kvs : List (Key × V)), vs = [.str n, .ref t] ∧ DctAt H t kvs ∧ (kvs.map (·.1)).Nodup ∧ Q (.bl (valV kvs (Sum.inr n)).isSome) H
theorem ok_name_in (T : Txt K mg a d) : FnOk P w K mg base CX0 1 (a 24) (d 24) ["thing", "names"] spNameIn := by
  refine T.F24.ok sc__is_name_in (fun vs H Q E h => ?_) (fun cdv A outer s H vs Q E hr h => ?_)
  · obtain ⟨n, t, kvs, rfl, _⟩ := h
    rfl
  · obtain ⟨n, t, kvs, rfl, ht, nd, q⟩ := h
    refine ⟨_, (pss_one (ps_ret (pe_and (pe_callB (id := "isinstance")  call_isi (by rfl) T.z_isinstance (by decide +kernel) (pa_cons (pv 0) (pa_cons (pe_bltn (v := .ty "str") (by rfl) T.z_str (by decide +kernel) rfl) pa_nil))) (pe_one (pe_cmp (pc_din (hu_of hr) (pv 0) (pv 1)) rfl))))), ?_⟩
    refine ⟨_, rfl, _, _, _, _, _, rfl, .ty _, .base (.str n), kit_ty (show kitB "str" "str" = some true by decide +kernel), _, rfl, ?_⟩
    exact ⟨_, rfl, _, rfl, t, _, rfl, ht.get nd (Sum.inr n), q⟩
def spAreCols : Sp := fun vs H Q _ => ∃ (c : Addr) (cs : List Int) (w : Int), vs = [.ref c, .int w] ∧ H c = some (.tup (cs.map V.int)) ∧ Cols cs w ∧ cs.length ≤ 100 ∧ ∀ H', Same H H' → Q (.bl true) H'
theorem ok_are_columns (T : Txt K mg a d) : FnOk P w K mg base CX0 2 (a 25) (d 25) ["thing", "width"] spAreCols := by
  have G11 : FnOk P w K mg base CX0 1 (a 11) (d 11) ["thing"] (spB plainV) := ok_plain T
  refine T.F25.ok sc__are_columns (fun vs H Q E h => ?_) (fun cdv A outer s H vs Q E hr h => ?_)
  · obtain ⟨c, cs, w, rfl, _⟩ := h
    rfl
  · obtain ⟨c, cs, w, rfl, hc, hcs, hl, q⟩ := h
    refine ⟨_, (pss_cons (ps_if (pt_not (pt_val (pe_callB (id := "isinstance")  call_isi (by rfl) T.z_isinstance (by decide +kernel) (pa_cons (pv 0) (pa_cons (pe_bltn (v := .ty "tuple") (by rfl) T.z_tuple (by decide +kernel) rfl) pa_nil)))))
    (pss_one (ps_ret pe_bl))
    pss_nil)
  (pss_cons (ps_set (i := 2) sc__are_columns.nd rfl (.inl rfl) pe_int)
  (pss_cons (ps_for PassesOwn.never rfl (pi_tup (pv 0)) (pg_name (i := 3) sc__are_columns.nd rfl (.inl rfl))
    (pss_cons (ps_if (PW.pt (pw_or (pt_not (pt_val (pe_call G11 (hr.mono (by decide)) (by rfl) T.g11 T.F11.kp T.b11 .nil pass0 (pa_cons (pv 3) pa_nil)))) (pw_or1 (pt_not (pt_chain op_le op_lt (pv 2) (pv 3) (pv 1))))))
        (pss_one (ps_ret pe_bl))
        pss_nil)
      (pss_one (ps_set (i := 2) sc__are_columns.nd rfl (.inl rfl) (pe_op op_add (pv 3) pe_int)))))
  (pss_one (ps_ret pe_bl))))), ?_⟩
    refine ⟨_, rfl, _, _, _, _, _, rfl, .ty _, .base (.tup hc), kit_ty (show kitB "tuple" "tuple" = some true by decide +kernel), _, rfl, ?_⟩
    refine ⟨_, rfl, c, rfl, ⟨_, .of hc⟩, for_tup (K := K) (a := c) (xs := cs.map V.int) (fun i σ H' => ∃ (l : Int) (y3 : Option V), σ = [some (.ref c), some (.int w), some (.int l), y3] ∧ Same H H' ∧ (∀ j x, i ≤ j → cs[j]? = some x → l ≤ x)) ⟨0, none, rfl, Same.refl H, fun j x _ e => (hcs.2 x (List.mem_of_getElem? e)).1⟩ (fun i σ H' _ hp => ?_) (fun i y σ H' hy hp => ?_) (fun σ H' hp => ?_)⟩
    · obtain ⟨l, y3, rfl, s1, _⟩ := hp
      exact .of (s1 _ _ hc)
    · obtain ⟨l, y3, rfl, s1, hlow⟩ := hp
      obtain ⟨x, hx, rfl⟩ := map_at hy
      have hb := hcs.2 x (List.mem_of_getElem? hx)
      have h1 := hlow i x (Nat.le_refl _) hx
      refine ⟨_, rfl, _, rfl, .int x, fun H1 s2 => ⟨_, rfl, ?_⟩⟩
      refine ⟨_, rfl, _, rfl, _, _, rfl, rfl, _, rfl, ite_d (fun _ => ?_) (fun z => absurd h1 z)⟩
      refine ⟨_, rfl, _, _, rfl, rfl, _, rfl, ?_⟩
      rw [decide_eq_true hb.2]
      refine ⟨_, rfl, _, _, rfl, rfl, _, _, rfl, s1.trans s2, fun j z hj e => ?_⟩
      have hij : i < j := hj
      obtain ⟨hi', ei⟩ := List.getElem?_eq_some_iff.mp hx
      obtain ⟨hj', ej⟩ := List.getElem?_eq_some_iff.mp e
      have := List.pairwise_iff_getElem.mp hcs.1 i j hi' hj' hij
      rw [ei, ej] at this
      omega
    · obtain ⟨l, y3, rfl, s1, _⟩ := hp
      exact q H' s1
/-! ### keys and services that are right -/
def spIsKey : Sp := fun vs H Q _ => ∃ (c : Addr) (cs : List Int) (w : Int), vs = [.ref c, .int w] ∧ H c = some (.tup (cs.map V.int)) ∧ Cols cs w ∧ cs.length ≤ 100 ∧ 1 ≤ cs.length ∧ (cs.length : Int) < w ∧ ∀ H', Same H H' → Q (.bl true) H'
theorem ok_is_key (T : Txt K mg a d) : FnOk P w K mg base CX0 3 (a 26) (d 26) ["thing", "width"] spIsKey := by
  have G25 : FnOk P w K mg base CX0 2 (a 25) (d 25) ["thing", "width"] spAreCols := ok_are_columns T
  refine T.F26.ok sc__is_key (fun vs H Q E h => ?_) (fun cdv A outer s H vs Q E hr h => ?_)
  · obtain ⟨c, cs, w, rfl, _⟩ := h
    rfl
  · obtain ⟨c, cs, w, rfl, hc, hcs, hl, h1, h2, q⟩ := h
    refine ⟨_, (pss_one (ps_ret (pe_and (pe_call G25 (hr.mono (by decide)) (by rfl) T.g25 T.F25.kp T.b25 .nil pass0 (pa_cons (pv 0) (pa_cons (pv 1) pa_nil))) (pe_one (pe_chain op_lt op_lt pe_int (pe_callB (id := "len")  call_len_seq (by rfl) T.z_len (by decide +kernel) (pa_cons (pv 0) pa_nil)) (pv 1)))))), ?_⟩
    refine ⟨_, rfl, _, rfl, c, cs, w, rfl, hc, hcs, hl, fun H1 s1 => ⟨_, rfl, ?_⟩⟩
    have lc : ((cs.map V.int).length : Int) = cs.length := by rw [List.length_map]
    refine ⟨_, rfl, _, _, rfl, .inr (.of (s1 _ _ hc)), _, _, rfl, rfl, _, rfl, ite_d (fun _ => ?_) (fun z => absurd (by omega) z)⟩
    refine ⟨_, rfl, _, _, rfl, rfl, ?_⟩
    show Q (.bl (decide (((cs.map V.int).length : Int) < w))) H1
    rw [lc, decide_eq_true h2]
    exact q H1 s1
def spIsSvc : Sp := fun vs H Q _ => ∃ (v t ga : Addr) (n : Str) (cs : List Int) (cap : Option Int) (w : Int) (ts : List (Str × Int)) (m : Nat), vs = [.ref v, .ref t] ∧ Told H v n ga cs cap ∧ DctAt H t (tabK ts) ∧ Tabs ts m 4 ∧ (n, w) ∈ ts ∧ Cols cs w ∧ cs.length ≤ 4 ∧ (∀ z, cap = some z → 1 ≤ z ∧ z ≤ 4) ∧ ∀ H', Same H H' → Q (.bl true) H'
theorem ok_is_service (T : Txt K mg a d) : FnOk P w K mg base CX0 3 (a 27) (d 27) ["thing", "tables"] spIsSvc := by
  have G25 : FnOk P w K mg base CX0 2 (a 25) (d 25) ["thing", "width"] spAreCols := ok_are_columns T
  have G24 : FnOk P w K mg base CX0 1 (a 24) (d 24) ["thing", "names"] spNameIn := ok_name_in T
  have G23 : FnOk P w K mg base CX0 2 (a 23) (d 23) ["thing", "most"] spCount := ok_count T
  refine T.F27.ok sc__is_service (fun vs H Q E h => ?_) (fun cdv A outer s H vs Q E hr h => ?_)
  · obtain ⟨v, t, ga, n, cs, cap, w, ts, m, rfl, _⟩ := h
    rfl
  · obtain ⟨v, t, ga, n, cs, cap, w, ts, m, rfl, hv, ht, hT, hm, hcs, hl, hcap, q⟩ := h
    obtain ⟨t9, h_MOST_CAP⟩ := T.c_MOST_CAP
    have tv := tab_val hT hm
    have g := fun (H' : Hp) (s : Same H H') => (ht.same s).get (tab_nd hT) (Sum.inr n)
    rw [tv] at g
    refine ⟨_, (pss_cons (ps_if (PW.pt (pw_or (pt_not (pt_val (pe_callB (id := "isinstance")  call_isi (by rfl) T.z_isinstance (by decide +kernel) (pa_cons (pv 0) (pa_cons (pe_bltn (v := .ty "tuple") (by rfl) T.z_tuple (by decide +kernel) rfl) pa_nil))))) (pw_or1 (pt_cmpR op_ne (pe_callB (id := "len")  call_len_seq (by rfl) T.z_len (by decide +kernel) (pa_cons (pv 0) pa_nil)) pe_int (nomark _)))))
    (pss_one (ps_ret pe_bl))
    pss_nil)
  (pss_cons (ps_asg (pv 0) (pg_tup rfl (pgs_cons (pg_name (i := 2) sc__is_service.nd rfl (.inl rfl)) (pgs_cons (pg_name (i := 3) sc__is_service.nd rfl (.inl rfl)) (pgs_cons (pg_name (i := 4) sc__is_service.nd rfl (.inl rfl)) pgs_nil)))))
  (pss_cons (ps_if (PW.pt (pw_or (pt_not (pt_val (pe_call G24 (hr.mono (by decide)) (by rfl) T.g24 T.F24.kp T.b24 .nil pass0 (pa_cons (pv 2) (pa_cons (pv 1) pa_nil))))) (pw_or1 (pt_not (pt_val (pe_call G25 (hr.mono (by decide)) (by rfl) T.g25 T.F25.kp T.b25 .nil pass0 (pa_cons (pv 3) (pa_cons (pe_dget (hu_of hr) (pv 1) (pv 2) (fun _ _ => rfl)) pa_nil))))))))
    (pss_one (ps_ret pe_bl))
    pss_nil)
  (pss_one (ps_ret (pe_or (pe_cmpR op_isN (pv 4) pe_non (nomark _)) (pe_one (pe_call G23 (hr.mono (by decide)) (by rfl) T.g23 T.F23.kp T.b23 .nil pass0 (pa_cons (pv 4) (pa_cons (pe_glob (v := .int (4)) rfl h_MOST_CAP ⟨_, rfl⟩) pa_nil)))))))))), ?_⟩
    refine ⟨_, rfl, _, _, _, _, _, rfl, .ty _, .base (.tup hv.tup), kit_ty (show kitB "tuple" "tuple" = some true by decide +kernel), _, rfl, ?_⟩
    refine ⟨_, rfl, _, _, rfl, .inr (.of hv.tup), rfl, _, rfl, ?_⟩
    refine ⟨_, rfl, v, _, rfl, .of hv.tup, rfl, _, _, rfl, _, _, rfl, _, _, rfl, rfl, ?_⟩
    refine ⟨_, rfl, _, rfl, n, t, tabK ts, rfl, ht, tab_nd hT, ?_⟩
    rw [tv]
    refine ⟨_, rfl, _, rfl, _, rfl, _, rfl, t, _, rfl, g H (Same.refl H), ga, cs, w, rfl, hv.cols, hcs, by omega, fun H1 s1 => ⟨_, rfl, ?_⟩⟩
    refine ⟨_, rfl, rfl, _, rfl, ?_⟩
    rw [capV_none]
    cases e : cap.isNone with
    | true => exact q H1 s1
    | false =>
      cases cap with
      | none => cases e
      | some z =>
        have hz := hcap z rfl
        refine ⟨_, rfl, z, 4, rfl, fun H2 s2 => ?_⟩
        rw [decide_eq_true hz]
        exact q H2 (s1.trans s2)
end
/-! ### a dict whose names are sorted -/
section
variable {P : Program} {w : World} {K : PySem.W.Frag} {mg : Str → Option Value} {base : Heap} {a : Nat → Addr} {d : Nat → FuncData}
def spChkT : Sp := fun vs H Q _ => ∃ (t : Addr) (ts : List (Str × Int)) (m : Nat), vs = [.ref t] ∧ DctAt H t (tabK ts) ∧ Tabs ts m 4 ∧ 1 ≤ m ∧ m ≤ 5 ∧ ∀ H', Same H H' → Q .non H'
theorem ok_check_tables (T : Txt K mg a d) : FnOk P w K mg base CX0 3 (a 29) (d 29) ["tables"] spChkT := by
  have G12 : FnOk P w K mg base CX0 1 (a 12) (d 12) ["thing"] (spB wordV) := ok_is_word T
  have G23 : FnOk P w K mg base CX0 2 (a 23) (d 23) ["thing", "most"] spCount := ok_count T
  refine T.F29.ok sc__check_tables (fun vs H Q E h => ?_) (fun cdv A outer s H vs Q E hr h => ?_)
  · obtain ⟨t, ts, m, rfl, _⟩ := h
    rfl
  · obtain ⟨t, ts, m, rfl, ht, hT, hm1, hm2, q⟩ := h
    obtain ⟨t8, h_MOST_TABLES⟩ := T.c_MOST_TABLES
    obtain ⟨t9, h_MOST_WIDTH⟩ := T.c_MOST_WIDTH
    have hlen := hT.len
    obtain ⟨ks, zs, e, kl, ek, z64, _, hL⟩ := DctAt.names (f := (·.1)) ht (fun _ => rfl) (by omega)
    refine ⟨_, (pss_cons (ps_if (pt_not (pt_chain op_le op_le pe_int (pe_callB (id := "len")  call_lenD (by rfl) T.z_len (by decide +kernel) (pa_cons (pv 0) pa_nil)) (pe_glob (v := .int (5)) rfl h_MOST_TABLES ⟨_, rfl⟩)))
    (pss_one ps_never)
    pss_nil)
  (pss_one (ps_for PassesOwn.never rfl (pi_list (pe_callB (id := "sorted")  (call_sortedD rfl) (by rfl) T.z_sorted (by decide +kernel) (pa_cons (pv 0) pa_nil))) (pg_name (i := 1) sc__check_tables.nd rfl (.inl rfl))
    (pss_one (ps_if (PW.pt (pw_or (pt_not (pt_val (pe_call G12 (hr.mono (by decide)) (by rfl) T.g12 T.F12.kp T.b12 .nil pass0 (pa_cons (pv 1) pa_nil)))) (pw_or1 (pt_not (pt_val (pe_call G23 (hr.mono (by decide)) (by rfl) T.g23 T.F23.kp T.b23 .nil pass0 (pa_cons (pe_dget (hu_of hr) (pv 0) (pv 1) (fun _ _ => rfl)) (pa_cons (pe_glob (v := .int (4)) rfl h_MOST_WIDTH ⟨_, rfl⟩) pa_nil))))))))
        (pss_one ps_never)
        pss_nil))))), ?_⟩
    refine ⟨_, rfl, t, ks, rfl, e, _, _, rfl, rfl, _, rfl, ite_d (fun _ => ?_) (fun z => absurd (by omega) z)⟩
    refine ⟨_, _, rfl, rfl, _, rfl, ?_⟩
    show if (!decide ((ks.length : Int) ≤ 5)) = true then _ else _
    rw [decide_eq_true (by omega)]
    refine ⟨_, rfl, t, ks, zs, rfl, .inl e, ek, z64, fun ys p yp _ hp => ⟨p, rfl, ?_⟩⟩
    obtain ⟨L, hLp, rfl⟩ := hL ys yp
    have s0 := same_upd (o := .lst ((L.map (·.1)).map V.str)) hp
    refine ⟨⟨_, .of upd_same⟩, for_list (K := K) (a := p) (xs := (L.map (·.1)).map V.str) (fun i σ H' => ∃ y1 : Option V, σ = [some (.ref t), y1] ∧ Same (upd H p (.lst ((L.map (·.1)).map V.str))) H') ⟨none, rfl, Same.refl _⟩ (fun i σ H' _ hp => ?_) (fun i y σ H' hy hp => ?_) (fun σ H' hp => ?_)⟩
    · obtain ⟨y1, rfl, s1⟩ := hp
      exact .of (s1 _ _ upd_same)
    · obtain ⟨y1, rfl, s1⟩ := hp
      obtain ⟨n, hn, rfl⟩ := map_at hy
      obtain ⟨b, hb, rfl⟩ := map_at hn
      have hm : (b.1, b.2) ∈ ts := hLp.mem_iff.mp (List.mem_of_getElem? hb)
      have hw := hT.wd _ hm
      have hwd := hT.nm.wd b.1 (List.mem_map.mpr ⟨_, hm, rfl⟩)
      refine ⟨_, rfl, .str b.1, rfl, wd_thg hwd, fun H1 s2 => ⟨_, rfl, ?_⟩⟩
      show if (!wordB b.1) = true then _ else _
      rw [wd_b hwd]
      refine ⟨_, rfl, _, rfl, t, _, rfl, (ht.same ((s0.trans s1).trans s2)).at_ (tab_nd hT) (tab_val hT hm), b.2, 4, rfl, fun H2 s3 => ⟨_, rfl, ?_⟩⟩
      rw [decide_eq_true hw]
      exact ⟨_, rfl, (s1.trans s2).trans s3⟩
    · obtain ⟨y1, rfl, s1⟩ := hp
      exact q H' (s0.trans s1)
def spChkK : Sp := fun vs H Q _ => ∃ (k t : Addr) (ts : List (Str × Int)) (ks : List KeyE) (m : Nat), vs = [.ref k, .ref t] ∧ DctAt H k (keyK ks) ∧ DctAt H t (tabK ts) ∧ Tabs ts m 4 ∧ Keys H ts ks ∧ m ≤ 5 ∧ ∀ H', Same H H' → Q .non H'
theorem ok_check_keys (T : Txt K mg a d) : FnOk P w K mg base CX0 4 (a 30) (d 30) ["keys", "tables"] spChkK := by
  have G26 : FnOk P w K mg base CX0 3 (a 26) (d 26) ["thing", "width"] spIsKey := ok_is_key T
  refine T.F30.ok sc__check_keys (fun vs H Q E h => ?_) (fun cdv A outer s H vs Q E hr h => ?_)
  · obtain ⟨k, t, ts, ks, m, rfl, _⟩ := h
    rfl
  · obtain ⟨k, t, ts, ks, m, rfl, hk, ht, hT, hK, hm2, q⟩ := h
    have hlen := hT.len
    have hkl : ks.length ≤ 5 := by
      have := hK.le
      omega
    obtain ⟨kd, zs, e, kl, ek, z64, _, hL⟩ := DctAt.names (f := (·.1)) hk (fun _ => rfl) (by omega)
    refine ⟨_, (pss_one (ps_for PassesOwn.never rfl (pi_list (pe_callB (id := "sorted")  (call_sortedD rfl) (by rfl) T.z_sorted (by decide +kernel) (pa_cons (pv 0) pa_nil))) (pg_name (i := 2) sc__check_keys.nd rfl (.inl rfl))
    (pss_one (ps_if (PW.pt (pw_or (pt_cmp (pc_dnotin (hu_of hr) (pv 2) (pv 1))) (pw_or1 (pt_not (pt_val (pe_call G26 (hr.mono (by decide)) (by rfl) T.g26 T.F26.kp T.b26 .nil pass0 (pa_cons (pe_dget (hu_of hr) (pv 0) (pv 2) (fun _ _ => rfl)) (pa_cons (pe_dget (hu_of hr) (pv 1) (pv 2) (fun _ _ => rfl)) pa_nil))))))))
        (pss_one ps_never)
        pss_nil)))), ?_⟩
    refine ⟨_, rfl, k, kd, zs, rfl, .inl e, ek, z64, fun ys p yp _ hp => ⟨p, rfl, ?_⟩⟩
    obtain ⟨L, hLp, rfl⟩ := hL ys yp
    have s0 := same_upd (o := .lst ((L.map (·.1)).map V.str)) hp
    refine ⟨⟨_, .of upd_same⟩, for_list (K := K) (a := p) (xs := (L.map (·.1)).map V.str) (fun i σ H' => ∃ y1 : Option V, σ = [some (.ref k), some (.ref t), y1] ∧ Same (upd H p (.lst ((L.map (·.1)).map V.str))) H') ⟨none, rfl, Same.refl _⟩ (fun i σ H' _ hp => ?_) (fun i y σ H' hy hp => ?_) (fun σ H' hp => ?_)⟩
    · obtain ⟨y1, rfl, s1⟩ := hp
      exact .of (s1 _ _ upd_same)
    · obtain ⟨y1, rfl, s1⟩ := hp
      obtain ⟨n, hn, rfl⟩ := map_at hy
      obtain ⟨b, hb, rfl⟩ := map_at hn
      have hm : b ∈ ks := hLp.mem_iff.mp (List.mem_of_getElem? hb)
      obtain ⟨w', hw', hcols, hl1, hl2⟩ := hK.ok b hm
      have hwd := hT.wd _ hw'
      have s2 := s0.trans s1
      have gt := (ht.same s2).at_ (tab_nd hT) (tab_val hT hw')
      refine ⟨_, rfl, _, rfl, t, _, rfl, gt, _, rfl, ?_⟩
      refine ⟨_, rfl, _, rfl, k, _, rfl, (hk.same s2).at_ (key_nd hT hK) (key_val hT hK hm), _, rfl, _, rfl, t, _, rfl, gt, b.2.1, b.2.2, w', rfl, s2 _ _ (hK.at_ b hm), hcols, by omega, hl1, hl2, fun H1 s3 => ⟨_, rfl, ?_⟩⟩
      exact ⟨_, rfl, s1.trans s3⟩
    · obtain ⟨y1, rfl, s1⟩ := hp
      exact q H' (s0.trans s1)
def spChkS : Sp := fun vs H Q _ => ∃ (v t : Addr) (ts : List (Str × Int)) (ks : List KeyE) (ss : List SvE) (m n : Nat), vs = [.ref v, .ref t] ∧ DctAt H v (svK ss) ∧ DctAt H t (tabK ts) ∧ Tabs ts m 4 ∧ Svcs H ts ks ss n ∧ 1 ≤ n ∧ n ≤ 8 ∧ ∀ H', Same H H' → Q .non H'
theorem ok_check_services (T : Txt K mg a d) : FnOk P w K mg base CX0 4 (a 31) (d 31) ["services", "tables"] spChkS := by
  have G12 : FnOk P w K mg base CX0 1 (a 12) (d 12) ["thing"] (spB wordV) := ok_is_word T
  have G27 : FnOk P w K mg base CX0 3 (a 27) (d 27) ["thing", "tables"] spIsSvc := ok_is_service T
  refine T.F31.ok sc__check_services (fun vs H Q E h => ?_) (fun cdv A outer s H vs Q E hr h => ?_)
  · obtain ⟨v, t, ts, ks, ss, m, n, rfl, _⟩ := h
    rfl
  · obtain ⟨v, t, ts, ks, ss, m, n, rfl, hv, ht, hT, hS, hm1, hm2, q⟩ := h
    obtain ⟨t8, h_MOST_SERVICES⟩ := T.c_MOST_SERVICES
    have hlen : ss.length = n := by rw [← hS.nm.len, List.length_map]
    obtain ⟨kd, zs, e, kl, ek, z64, _, hL⟩ := DctAt.names (f := (·.name)) hv (fun _ => rfl) (by omega)
    refine ⟨_, (pss_cons (ps_if (pt_not (pt_chain op_le op_le pe_int (pe_callB (id := "len")  call_lenD (by rfl) T.z_len (by decide +kernel) (pa_cons (pv 0) pa_nil)) (pe_glob (v := .int (8)) rfl h_MOST_SERVICES ⟨_, rfl⟩)))
    (pss_one ps_never)
    pss_nil)
  (pss_one (ps_for PassesOwn.never rfl (pi_list (pe_callB (id := "sorted")  (call_sortedD rfl) (by rfl) T.z_sorted (by decide +kernel) (pa_cons (pv 0) pa_nil))) (pg_name (i := 2) sc__check_services.nd rfl (.inl rfl))
    (pss_one (ps_if (PW.pt (pw_or (pt_not (pt_val (pe_call G12 (hr.mono (by decide)) (by rfl) T.g12 T.F12.kp T.b12 .nil pass0 (pa_cons (pv 2) pa_nil)))) (pw_or1 (pt_not (pt_val (pe_call G27 (hr.mono (by decide)) (by rfl) T.g27 T.F27.kp T.b27 .nil pass0 (pa_cons (pe_dget (hu_of hr) (pv 0) (pv 2) (fun _ _ => rfl)) (pa_cons (pv 1) pa_nil))))))))
        (pss_one ps_never)
        pss_nil))))), ?_⟩
    refine ⟨_, rfl, v, kd, rfl, e, _, _, rfl, rfl, _, rfl, ite_d (fun _ => ?_) (fun z => absurd (by omega) z)⟩
    refine ⟨_, _, rfl, rfl, _, rfl, ?_⟩
    show if (!decide ((kd.length : Int) ≤ 8)) = true then _ else _
    rw [decide_eq_true (by omega)]
    refine ⟨_, rfl, v, kd, zs, rfl, .inl e, ek, z64, fun ys p yp _ hp => ⟨p, rfl, ?_⟩⟩
    obtain ⟨L, hLp, rfl⟩ := hL ys yp
    have s0 := same_upd (o := .lst ((L.map (·.name)).map V.str)) hp
    refine ⟨⟨_, .of upd_same⟩, for_list (K := K) (a := p) (xs := (L.map (·.name)).map V.str) (fun i σ H' => ∃ y1 : Option V, σ = [some (.ref v), some (.ref t), y1] ∧ Same (upd H p (.lst ((L.map (·.name)).map V.str))) H') ⟨none, rfl, Same.refl _⟩ (fun i σ H' _ hp => ?_) (fun i y σ H' hy hp => ?_) (fun σ H' hp => ?_)⟩
    · obtain ⟨y1, rfl, s1⟩ := hp
      exact .of (s1 _ _ upd_same)
    · obtain ⟨y1, rfl, s1⟩ := hp
      obtain ⟨nm, hn, rfl⟩ := map_at hy
      obtain ⟨b, hb, rfl⟩ := map_at hn
      have hm : b ∈ ss := hLp.mem_iff.mp (List.mem_of_getElem? hb)
      have hwd := hS.nm.wd b.name (List.mem_map.mpr ⟨_, hm, rfl⟩)
      obtain ⟨htold, ⟨w', hw', hcols, hcl⟩, hcap⟩ := hS.ok b hm
      refine ⟨_, rfl, .str b.name, rfl, wd_thg hwd, fun H1 s2 => ⟨_, rfl, ?_⟩⟩
      have s3 := (s0.trans s1).trans s2
      show if (!wordB b.name) = true then _ else _
      rw [wd_b hwd]
      refine ⟨_, rfl, _, rfl, v, _, rfl, (hv.same s3).at_ (sv_nd hS) (sv_val hS hm), _, rfl, b.at_, t, b.ga, b.tab, b.cols, b.cap, w', ts, m, rfl, htold.mono fun _ _ e => s3 _ _ e, ht.same s3, hT, hw', hcols, hcl, hcap, fun H2 s4 => ⟨_, rfl, ?_⟩⟩
      exact ⟨_, rfl, (s1.trans s2).trans s4⟩
    · obtain ⟨y1, rfl, s1⟩ := hp
      exact q H' (s0.trans s1)
end
/-! ### the order of names -/
section
variable {P : Program} {w : World} {K : PySem.W.Frag} {mg : Str → Option Value} {base : Heap} {a : Nat → Addr} {d : Nat → FuncData}
def spChkC : Sp := fun vs H Q _ => ∃ (v t k : Addr) (ts : List (Str × Int)) (ks : List KeyE) (ss : List SvE) (m n : Nat), vs = [.ref v, .ref t, .ref k] ∧ DctAt H v (svK ss) ∧ DctAt H t (tabK ts) ∧ DctAt H k (keyK ks) ∧ Tabs ts m 4 ∧ Keys H ts ks ∧ Svcs H ts ks ss n ∧ n ≤ 8 ∧ ∀ H', Same H H' → Q .non H'
theorem ok_check_capped (T : Txt K mg a d) : FnOk P w K mg base CX0 2 (a 32) (d 32) ["services", "tables", "keys"] spChkC := by
  have G28 : FnOk P w K mg base CX0 1 (a 28) (d 28) ["service", "tables", "keys"] spIsWh := ok_is_wh T
  refine T.F32.ok sc__check_capped (fun vs H Q E h => ?_) (fun cdv A outer s H vs Q E hr h => ?_)
  · obtain ⟨v, t, k, ts, ks, ss, m, n, rfl, _⟩ := h
    rfl
  · obtain ⟨v, t, k, ts, ks, ss, m, n, rfl, hv, ht, hk, hT, hK, hS, hn, q⟩ := h
    have hlen : ss.length = n := by rw [← hS.nm.len, List.length_map]
    obtain ⟨kd, zs, e, kl, ek, z64, _, hL⟩ := DctAt.names (f := (·.name)) hv (fun _ => rfl) (by omega)
    refine ⟨_, (pss_cons (ps_set (i := 3) sc__check_capped.nd rfl (.inl rfl) (pe_lst pa_nil))
  (pss_one (ps_for PassesOwn.never rfl (pi_list (pe_callB (id := "sorted")  (call_sortedD rfl) (by rfl) T.z_sorted (by decide +kernel) (pa_cons (pv 0) pa_nil))) (pg_name (i := 4) sc__check_capped.nd rfl (.inl rfl))
    (pss_cons (ps_set (i := 5) sc__check_capped.nd rfl (.inl rfl) (pe_dget (hu_of hr) (pv 0) (pv 4) (fun _ _ => rfl)))
      (pss_one (ps_if (pt_not (pt_val (pe_call G28 (hr.mono (by decide)) (by rfl) T.g28 T.F28.kp T.b28 .nil pass0 (pa_cons (pv 5) (pa_cons (pv 1) (pa_cons (pv 2) pa_nil))))))
        (pss_cons (ps_if (pt_cmpR op_in_seq (pe_ix ix_tup (pv 5) pe_int (fun _ _ => rfl)) (pv 3) (by rfl))
            (pss_one ps_never)
            pss_nil)
          (pss_one (ps_expr (pe_bm PySem.F.plainAttrs_list PySem.F.slot_list_append PySem.F.type_list_append mt_append (pv 3) (pa_cons (pe_ix ix_tup (pv 5) pe_int (fun _ _ => rfl)) pa_nil)))))
        pss_nil)))))), ?_⟩
    refine ⟨Nat.zero_le _, fun f hf => ?_⟩
    have s0 := same_upd (o := .lst []) hf
    refine ⟨_, rfl, v, kd, zs, rfl, .inl (s0 _ _ e), ek, z64, fun ys p yp _ hp => ⟨p, rfl, ?_⟩⟩
    obtain ⟨L, hLp, rfl⟩ := hL ys yp
    have s1 := same_upd (o := .lst ((L.map (·.name)).map V.str)) hp
    have nfp : f ≠ p := ne_of_none upd_same hp
    have nd : (fillE ts ks L).Nodup := (fillE_perm hLp).nodup_iff.mpr hS.one
    have lL : L.length ≤ 8 := by rw [hLp.length_eq]; omega
    refine ⟨⟨_, .of upd_same⟩, for_list (K := K) (a := p) (xs := (L.map (·.name)).map V.str) (fun i σ H' => ∃ y4 y5 : Option V, σ = [some (.ref v), some (.ref t), some (.ref k), some (.ref f), y4, y5] ∧ H' p = some (.lst ((L.map (·.name)).map V.str)) ∧ H' f = some (.lst ((fillE ts ks (L.take i)).map V.str)) ∧ Same H H')
      ⟨none, none, rfl, upd_same, s1 _ _ upd_same, s0.trans s1⟩ (fun i σ H' _ hp => ?_) (fun i y σ H' hy hp => ?_) (fun σ H' hp => ?_)⟩
    · obtain ⟨y4, y5, rfl, hp', _⟩ := hp
      exact .of hp'
    · obtain ⟨y4, y5, rfl, hp', hf', sm⟩ := hp
      obtain ⟨nm, hn', rfl⟩ := map_at hy
      obtain ⟨b, hb, rfl⟩ := map_at hn'
      have hm : b ∈ ss := hLp.mem_iff.mp (List.mem_of_getElem? hb)
      obtain ⟨htold, ⟨w', hw', hcols, hcl⟩, hcap⟩ := hS.ok b hm
      have hw2 := widthAt_mem hT.nm.nd hw'
      have tk : L.take (i + 1) = L.take i ++ [b] := by
        rw [List.take_add_one, hb]
        rfl
      have fs := fillE_snoc ts ks (L.take i) b
      rw [← tk] at fs
      have we : whE ts ks b = isWh w' ks b.tab b.cols b.cap := by
        unfold whE
        rw [hw2]
      refine ⟨_, rfl, _, rfl, v, _, rfl, (hv.same sm).at_ (sv_nd hS) (sv_val hS hm), ?_⟩
      refine ⟨_, rfl, _, rfl, _, rfl, b.at_, t, k, b.ga, b.tab, b.cols, b.cap, w', ts, ks, m, rfl, htold.mono fun _ _ e => sm _ _ e, ht.same sm, hk.same sm, hT, hK.mono fun _ _ e => sm _ _ e, hw', by omega, fun H2 s2 => ⟨_, rfl, ?_⟩⟩
      have sm2 := sm.trans s2
      cases ew : isWh w' ks b.tab b.cols b.cap with
      | true =>
        rw [we, ew, if_pos rfl, List.append_nil] at fs
        refine ⟨_, _, rfl, s2 _ _ hp', ?_, sm2⟩
        rw [fs]
        exact s2 _ _ hf'
      | false =>
        rw [we, ew, if_neg (by decide)] at fs
        have hno : b.tab ∉ fillE ts ks (L.take i) := fun hx => by
          have nd2 : (fillE ts ks (L.take (i + 1))).Nodup := nd.sublist (fillE_take L (i + 1))
          rw [fs] at nd2
          exact (List.nodup_append.mp nd2).2.2 b.tab hx b.tab (by simp) rfl
        have hat := htold.tup
        refine ⟨_, rfl, _, _, _, _, rfl, rfl, .of (sm2 _ _ hat), atI_nat (j := 0) rfl, _, rfl, f, _, rfl, .inl (.of (s2 _ _ hf')), rfl, flat_strs _, _, rfl, ?_⟩
        show if inV (.str b.tab) ((fillE ts ks (L.take i)).map V.str) = true then _ else _
        rw [inV_strs, decide_eq_false hno]
        refine ⟨_, rfl, .inl ⟨rfl, _, .of (s2 _ _ hf')⟩, _, rfl, _, _, _, _, rfl, rfl, .of (sm2 _ _ hat), atI_nat (j := 0) rfl, f, _, _, rfl, rfl, s2 _ _ hf', ?_, _, _, rfl, ?_, ?_, ?_⟩
        · rw [List.length_map]
          unfold fillE
          rw [List.length_map]
          have l1 := List.length_filter_le (fun b => !whE ts ks b) (L.take i)
          rw [List.length_take] at l1
          exact Nat.lt_of_le_of_lt (by omega : _ ≤ 8) (by decide)
        · rw [upd_ne nfp.symm]
          exact s2 _ _ hp'
        · rw [fs, List.map_append]
          exact upd_same
        · intro x o ex
          rw [upd_ne (ne_of_none ex hf)]
          exact sm2 x o ex
    · obtain ⟨y4, y5, rfl, hp', hf', sm⟩ := hp
      exact q H' sm
end
/-! ### the class -/
/-- a Schema at p -/
structure SchO (C p dx d1 d2 d3 : Addr) (H : Hp) (ts : List (Str × Int)) (ks : List KeyE) (ss : List SvE) (m n : Nat) : Prop where
  ob : H p = some (.ins C dx (fldsS d1 d2 d3))
  tb : DctAt H d1 (tabK ts)
  ky : DctAt H d2 (keyK ks)
  sv : DctAt H d3 (svK ss)
  hT : Tabs ts m 4
  hK : Keys H ts ks
  hS : Svcs H ts ks ss n
  m5 : m ≤ 5
  n8 : n ≤ 8
def SchAt (C p : Addr) (H : Hp) (ts : List (Str × Int)) (ks : List KeyE) (ss : List SvE) (m n : Nat) : Prop := ∃ dx d1 d2 d3, SchO C p dx d1 d2 d3 H ts ks ss m n
theorem SchO.same {C p dx d1 d2 d3 : Addr} {H H' : Hp} {ts : List (Str × Int)} {ks : List KeyE} {ss : List SvE} {m n : Nat} (h : SchO C p dx d1 d2 d3 H ts ks ss m n) (s : Same H H') : SchO C p dx d1 d2 d3 H' ts ks ss m n :=
  ⟨s _ _ h.ob, h.tb.same s, h.ky.same s, h.sv.same s, h.hT, h.hK.mono fun _ _ e => s _ _ e, h.hS.mono fun _ _ e => s _ _ e, h.m5, h.n8⟩
theorem SchAt.same {C p : Addr} {H H' : Hp} {ts : List (Str × Int)} {ks : List KeyE} {ss : List SvE} {m n : Nat} (h : SchAt C p H ts ks ss m n) (s : Same H H') : SchAt C p H' ts ks ss m n := by
  obtain ⟨dx, d1, d2, d3, o⟩ := h
  exact ⟨dx, d1, d2, d3, o.same s⟩
section
variable {P : Program} {w : World} {K : PySem.W.Frag} {mg : Str → Option Value} {base : Heap} {a : Nat → Addr} {d : Nat → FuncData}
def spSInit (C : Addr) : Sp := fun vs H Q _ => ∃ (p dx t k v : Addr) (ts : List (Str × Int)) (ks : List KeyE) (ss : List SvE) (m n : Nat), vs = [.ref p, .ref t, .ref k, .ref v] ∧ H p = some (.ins C dx []) ∧ DctAt H t (tabK ts) ∧ DctAt H k (keyK ks) ∧ DctAt H v (svK ss) ∧ Tabs ts m 4 ∧ Keys H ts ks ∧ Svcs H ts ks ss n ∧ 1 ≤ m ∧ m ≤ 5 ∧ 1 ≤ n ∧ n ≤ 8 ∧
  ∀ H' d1 d2 d3, SchO C p dx d1 d2 d3 H' ts ks ss m n → H d1 = none → H d2 = none → H d3 = none → (∀ b o, b ≠ p → H b = some o → H' b = some o) → Q .non H'
theorem ok_sinit (T : Txt K mg a d) : FnOk P w K mg base CX0 5 (a 4400) (d 4400) ["self", "tables", "keys", "services"] (spSInit (a 34)) := by
  have G29 : FnOk P w K mg base CX0 3 (a 29) (d 29) ["tables"] spChkT := ok_check_tables T
  have G30 : FnOk P w K mg base CX0 4 (a 30) (d 30) ["keys", "tables"] spChkK := ok_check_keys T
  have G31 : FnOk P w K mg base CX0 4 (a 31) (d 31) ["services", "tables"] spChkS := ok_check_services T
  have G32 : FnOk P w K mg base CX0 2 (a 32) (d 32) ["services", "tables", "keys"] spChkC := ok_check_capped T
  have G33 : FnOk P w K mg base CX0 1 (a 33) (d 33) ["things"] spCopied := ok_copied T
  refine T.F4400.ok sc_Schema___init__ (fun vs H Q E h => ?_) (fun cdv A outer s H vs Q E hr h => ?_)
  · obtain ⟨p, dx, t, k, v, ts, ks, ss, m, n, rfl, _⟩ := h
    rfl
  · obtain ⟨p, dx, t, k, v, ts, ks, ss, m, n, rfl, hp, ht, hk, hv, hT, hK, hS, hm1, hm2, hn1, hn2, q⟩ := h
    have lt : ts.length = m := hT.len
    have lk : ks.length ≤ 5 := by
      have := hK.le
      omega
    have ls : ss.length = n := by rw [← hS.nm.len, List.length_map]
    refine ⟨_, (pss_cons (ps_expr (pe_call G29 (hr.mono (by decide)) (by rfl) T.g29 T.F29.kp T.b29 .nil pass0 (pa_cons (pv 1) pa_nil)))
  (pss_cons (ps_expr (pe_call G30 (hr.mono (by decide)) (by rfl) T.g30 T.F30.kp T.b30 .nil pass0 (pa_cons (pv 2) (pa_cons (pv 1) pa_nil))))
  (pss_cons (ps_expr (pe_call G31 (hr.mono (by decide)) (by rfl) T.g31 T.F31.kp T.b31 .nil pass0 (pa_cons (pv 3) (pa_cons (pv 1) pa_nil))))
  (pss_cons (ps_expr (pe_call G32 (hr.mono (by decide)) (by rfl) T.g32 T.F32.kp T.b32 .nil pass0 (pa_cons (pv 3) (pa_cons (pv 1) (pa_cons (pv 2) pa_nil)))))
  (pss_cons (ps_fld (pv 0) (pe_call G33 (hr.mono (by decide)) (by rfl) T.g33 T.F33.kp T.b33 .nil pass0 (pa_cons (pv 1) pa_nil)) rfl)
  (pss_cons (ps_fld (pv 0) (pe_call G33 (hr.mono (by decide)) (by rfl) T.g33 T.F33.kp T.b33 .nil pass0 (pa_cons (pv 2) pa_nil)) rfl)
  (pss_one (ps_fld (pv 0) (pe_call G33 (hr.mono (by decide)) (by rfl) T.g33 T.F33.kp T.b33 .nil pass0 (pa_cons (pv 3) pa_nil)) rfl)))))))), ?_⟩
    refine ⟨_, rfl, t, ts, m, rfl, ht, hT, hm1, hm2, fun H1 s1 => ?_⟩
    refine ⟨_, rfl, _, rfl, k, t, ts, ks, m, rfl, hk.same s1, ht.same s1, hT, hK.mono fun _ _ e => s1 _ _ e, hm2, fun H2 s2 => ?_⟩
    have s12 := s1.trans s2
    refine ⟨_, rfl, _, rfl, v, t, ts, ks, ss, m, n, rfl, hv.same s12, ht.same s12, hT, hS.mono fun _ _ e => s12 _ _ e, hn1, hn2, fun H3 s3 => ?_⟩
    have s13 := s12.trans s3
    refine ⟨_, rfl, _, rfl, _, rfl, v, t, k, ts, ks, ss, m, n, rfl, hv.same s13, ht.same s13, hk.same s13, hT, hK.mono fun _ _ e => s13 _ _ e, hS.mono fun _ _ e => s13 _ _ e, hn2, fun H4 s4 => ?_⟩
    have s14 := s13.trans s4
    -- the three copies
    refine ⟨_, rfl, t, tabK ts, ts.map (·.1), rfl, ht.same s14, keys_tab ts, hT.nm.nd, by rw [List.length_map]; omega, fun d1 H5 f1 D1 s5 => ?_⟩
    have hp5 := (s14.trans s5) _ _ hp
    refine ⟨_, rfl, p, _, dx, _, rfl, hp5, T.cl_34, T.no_34__tables, by show 0 < 1000; decide, ?_⟩
    generalize hH6 : upd H5 p _ = H6
    have hp6 : H6 p = some (.ins (a 34) dx (putF "_tables" (.ref d1) [])) := by rw [← hH6]; exact upd_same
    have o6 : ∀ b o, b ≠ p → H5 b = some o → H6 b = some o := fun b o n e => by rw [← hH6, upd_ne n]; exact e
    have o06 : ∀ b o, b ≠ p → H b = some o → H6 b = some o := fun b o n e => o6 b o n ((s14.trans s5) _ _ e)
    have kn : ((keyK ks).map (·.1)) = (ks.map (·.1)).map Sum.inr := keys_key ks
    refine ⟨_, rfl, k, keyK ks, ks.map (·.1), rfl, hk.but hp o06, kn, hK.nd, by rw [List.length_map]; omega, fun d2 H7 f2 D2 s7 => ?_⟩
    have hp7 := s7 _ _ hp6
    refine ⟨_, rfl, p, _, dx, _, rfl, hp7, T.cl_34, T.no_34__keys, by show 1 < 1000; decide, ?_⟩
    generalize hH8 : upd H7 p _ = H8
    have hp8 : H8 p = some (.ins (a 34) dx (putF "_keys" (.ref d2) (putF "_tables" (.ref d1) []))) := by rw [← hH8]; exact upd_same
    have o8 : ∀ b o, b ≠ p → H7 b = some o → H8 b = some o := fun b o n e => by rw [← hH8, upd_ne n]; exact e
    have o68 : ∀ b o, b ≠ p → H6 b = some o → H8 b = some o := fun b o n e => o8 b o n (s7 _ _ e)
    have o08 : ∀ b o, b ≠ p → H b = some o → H8 b = some o := fun b o n e => o68 b o n (o06 b o n e)
    refine ⟨_, rfl, v, svK ss, ss.map (·.name), rfl, hv.but hp o08, keys_sv ss, hS.nm.nd, by rw [List.length_map]; omega, fun d3 H9 f3 D3 s9 => ?_⟩
    have hp9 := s9 _ _ hp8
    have l2 : ∀ d1 d2 : Addr, (putF "_keys" (.ref d2) (putF "_tables" (.ref d1) ([] : List (Str × V)))).length < 1000 := fun d1 d2 => by
      have e : putF "_keys" (.ref d2) (putF "_tables" (.ref d1) ([] : List (Str × V))) = [(("_tables" : Str), V.ref d1), (("_keys" : Str), V.ref d2)] := by
        show (if ("_tables" : Str) = "_keys" then _ else (("_tables" : Str), V.ref d1) :: putF "_keys" (.ref d2) []) = _
        rw [if_neg (by decide +kernel)]
        rfl
      rw [e]
      show 2 < 1000
      decide
    refine ⟨_, rfl, p, _, dx, _, rfl, hp9, T.cl_34, T.no_34__services, l2 _ _, ?_⟩
    generalize hH : upd H9 p _ = Hz
    have hpz : Hz p = some (.ins (a 34) dx (fldsS d1 d2 d3)) := by rw [← hH]; exact upd_same
    have oz : ∀ b o, b ≠ p → H9 b = some o → Hz b = some o := fun b o n e => by rw [← hH, upd_ne n]; exact e
    have o0z : ∀ b o, b ≠ p → H b = some o → Hz b = some o := fun b o n e => oz b o n (s9 _ _ (o08 b o n e))
    have tz : ∀ b xs, H b = some (.tup xs) → Hz b = some (.tup xs) := fun b xs e => o0z b _ (ne_of e hp (by intro z; cases z)) e
    have free : ∀ {x : Addr} {G : Hp} {o : HO}, G p = some o → (∀ b o, b ≠ p → H b = some o → G b = some o) → G x = none → H x = none := fun {x G o} hG k e => by
      cases e' : H x with
      | none => rfl
      | some u =>
        by_cases n : x = p
        · rw [n, hG] at e
          cases e
        · rw [k x u n e'] at e
          cases e
    refine q Hz d1 d2 d3 ⟨hpz, (((D1.but hp5 o6).same s7).but hp7 o8 |>.same s9).but hp9 oz, ((D2.but hp7 o8).same s9).but hp9 oz, D3.but hp9 oz, hT, hK.mono tz, hS.mono tz, hm2, hn2⟩ (s14.free f1) (free hp6 o06 f2) (free hp8 o08 f3) o0z
/-! ### its properties and lists of names -/
def spProp (C : Addr) (f : List (Str × Int) → List KeyE → List SvE → List (Key × V)) : Sp := fun vs H Q _ => ∃ (p : Addr) (ts : List (Str × Int)) (ks : List KeyE) (ss : List SvE) (m n : Nat), vs = [.ref p] ∧ SchAt C p H ts ks ss m n ∧ ∀ D H', H D = none → DctAt H' D (f ts ks ss) → Same H H' → Q (.ref D) H'
theorem ok_p_tables (T : Txt K mg a d) : FnOk P w K mg base CX0 1 (a 4401) (d 4401) ["self"] (spProp (a 34) fun ts _ _ => tabK ts) := by
  refine T.F4401.ok sc_Schema_tables (fun vs H Q E h => ?_) (fun cdv A outer s H vs Q E hr h => ?_)
  · obtain ⟨p, ts, ks, ss, m, n, rfl, _⟩ := h
    rfl
  · obtain ⟨p, ts, ks, ss, m, n, rfl, ⟨dx, d1, d2, d3, o⟩, q⟩ := h
    obtain ⟨kd, e, pk⟩ := o.tb
    exact ⟨_, (pss_one (ps_ret (pe_callTy (T := "dict")  call_dictD (by rfl) T.z_dict (by decide +kernel) (pa_cons (pe_fld (pv 0) rfl) pa_nil)))), _, rfl, p, _, dx, _, _, rfl, o.ob, T.cl_34, T.no_34__tables, flds_t _ _ _, d1, kd, rfl, .inl e, fun D hD => q D _ hD ⟨kd, upd_same, pk⟩ (same_upd hD)⟩
theorem ok_p_services (T : Txt K mg a d) : FnOk P w K mg base CX0 1 (a 4403) (d 4403) ["self"] (spProp (a 34) fun _ _ ss => svK ss) := by
  refine T.F4403.ok sc_Schema_services (fun vs H Q E h => ?_) (fun cdv A outer s H vs Q E hr h => ?_)
  · obtain ⟨p, ts, ks, ss, m, n, rfl, _⟩ := h
    rfl
  · obtain ⟨p, ts, ks, ss, m, n, rfl, ⟨dx, d1, d2, d3, o⟩, q⟩ := h
    obtain ⟨kd, e, pk⟩ := o.sv
    exact ⟨_, (pss_one (ps_ret (pe_callTy (T := "dict")  call_dictD (by rfl) T.z_dict (by decide +kernel) (pa_cons (pe_fld (pv 0) rfl) pa_nil)))), _, rfl, p, _, dx, _, _, rfl, o.ob, T.cl_34, T.no_34__services, flds_s _ _ _, d3, kd, rfl, .inl e, fun D hD => q D _ hD ⟨kd, upd_same, pk⟩ (same_upd hD)⟩
def spNms (C : Addr) (f : List (Str × Int) → List SvE → List Str) : Sp := fun vs H Q _ => ∃ (p : Addr) (ts : List (Str × Int)) (ks : List KeyE) (ss : List SvE) (m n : Nat), vs = [.ref p] ∧ SchAt C p H ts ks ss m n ∧ ∀ l ys H', H l = none → H' l = some (.lst (ys.map V.str)) → ys.Perm (f ts ss) → PyProof.Rows.sortedS ys = true → Same H H' → Q (.ref l) H'
theorem ok_table_names (T : Txt K mg a d) : FnOk P w K mg base CX0 1 (a 4405) (d 4405) ["self"] (spNms (a 34) fun ts _ => ts.map (·.1)) := by
  refine T.F4405.ok sc_Schema_table_names (fun vs H Q E h => ?_) (fun cdv A outer s H vs Q E hr h => ?_)
  · obtain ⟨p, ts, ks, ss, m, n, rfl, _⟩ := h
    rfl
  · obtain ⟨p, ts, ks, ss, m, n, rfl, ⟨dx, d1, d2, d3, o⟩, q⟩ := h
    obtain ⟨kd, zs, e, kl, ek, z64, zp, _⟩ := DctAt.names (f := (·.1)) o.tb (fun _ => rfl) (by have := o.hT.len; have := o.m5; omega)
    exact ⟨_, (pss_one (ps_ret (pe_callB (id := "sorted")  (call_sortedD rfl) (by rfl) T.z_sorted (by decide +kernel) (pa_cons (pe_fld (pv 0) rfl) pa_nil)))), _, rfl, p, _, dx, _, _, rfl, o.ob, T.cl_34, T.no_34__tables, flds_t _ _ _, d1, kd, zs, rfl, .inl e, ek, z64, fun ys l yp so hl => q l ys _ hl upd_same (yp.trans zp) so (same_upd hl)⟩
end
section
variable {P : Program} {w : World} {K : PySem.W.Frag} {mg : Str → Option Value} {base : Heap} {a : Nat → Addr} {d : Nat → FuncData}
/-! ### an unknown name -/
def spUInit (C : Addr) : Sp := fun vs H Q _ => ∃ (x : Addr) (v : V), vs = [.ref x, v] ∧ H x = some (exo x C none) ∧ ∀ dx, H dx = none → dx ≠ x → Q .non (upd (upd H dx (exd dx [(("name" : Str), v)])) x (exo x C (some dx)))
theorem ok_uinit (T : Txt K mg a d) : FnOk P w K mg base CX0 1 (a 1300) (d 1300) ["self", "name"] (spUInit (a 3)) := by
  refine T.F1300.ok sc_UnknownName___init__ (fun vs H Q E h => ?_) (fun cdv A outer s H vs Q E hr h => ?_)
  · obtain ⟨x, v, rfl, _⟩ := h
    rfl
  · obtain ⟨x, v, rfl, hx, q⟩ := h
    exact ⟨_, (pss_one (ps_ost (pv 0) (pv 1))), _, rfl, _, rfl, x, _, rfl, T.x_3, T.no_3_name, .inl ⟨hx, fun dx hdx ne => q dx hdx ne⟩⟩
/-- how an UnknownName(v) goes out: its dict dx, new -/
def Unk (C : Addr) (v : V) (H : Hp) (E : XK) : Prop := ∀ dx H', H dx = none → H' dx = some (.xd [(("name" : Str), v)]) → Same H H' → E (.ref C) (some dx) H'
theorem unk_raise {C : Addr} {v : V} {H : Hp} {E : XK} (k : Unk C v H E) : ([v] : List V).length ≤ 1000 ∧ ∀ x, H x = none → spUInit C (.ref x :: ([v] ++ [])) (upd H x (exo x C none))
    (fun u H2 => u = .non ∧ ∃ (dd : Addr) (fs : List (Str × V)), H2 x = some (exo x C (some dd)) ∧ H2 dd = some (exd dd fs) ∧ H dd = none ∧ E (.ref C) (some dd) (upd (del H2 x) dd (.xd fs))) (fun _ _ _ => False) := by
  refine ⟨by show 1 ≤ 1000; decide, fun x hx => ⟨x, v, rfl, upd_same, fun dx hdx ne => ⟨rfl, dx, _, upd_same, by rw [upd_ne ne]; exact upd_same, ?_, ?_⟩⟩⟩
  · rw [upd_ne ne] at hdx
    exact hdx
  · rw [upd_ne ne] at hdx
    refine k dx _ hdx upd_same fun b o e => ?_
    have nb : b ≠ x := ne_of_none e hx
    have nd : b ≠ dx := ne_of_none e hdx
    rw [upd_ne nd, del_ne nb, upd_ne nb, upd_ne nd, upd_ne nb]
    exact e
/-- what is asked of a name: told, or unknown -/
def spAsk (C CU : Addr) (f g : List (Str × Int) → List KeyE → List SvE → Str → Option V) : Sp := fun vs H Q E => ∃ (p : Addr) (n : Str) (ts : List (Str × Int)) (ks : List KeyE) (ss : List SvE) (mt ms : Nat), vs = [.ref p, .str n] ∧ SchAt C p H ts ks ss mt ms ∧
  (∀ v, f ts ks ss n = some v → ∃ u, g ts ks ss n = some u ∧ Q u H) ∧ (f ts ks ss n = none → Unk CU (.str n) H E)
theorem ok_width_of (T : Txt K mg a d) : FnOk P w K mg base (L2.CX P w) 4 (a 4408) (d 4408) ["self", "table"] (spAsk (a 34) (a 3) (fun ts _ _ n => valV (tabK ts) (Sum.inr n)) (fun ts _ _ n => valV (tabK ts) (Sum.inr n))) := by
  have G24 : FnOk P w K mg base CX0 1 (a 24) (d 24) ["thing", "names"] spNameIn := ok_name_in T
  have G1300 : FnOk P w K mg base CX0 1 (a 1300) (d 1300) ["self", "name"] (spUInit (a 3)) := ok_uinit T
  refine T.F4408.okX sc_Schema_width_of (fun vs H Q E h => ?_) (fun cdv A outer s H vs Q E hr h => ?_)
  · obtain ⟨p, n, ts, ks, ss, mt, ms, rfl, _⟩ := h
    rfl
  · obtain ⟨p, n, ts, ks, ss, mt, ms, rfl, ⟨dx, d1, d2, d3, o⟩, q1, q2⟩ := h
    refine ⟨_, (pss_cons (ps_if (pt_not (pt_val (pe_call G24 (hr.mono (by decide)) (by rfl) T.g24 T.F24.kp T.b24 .nil pass0 (pa_cons (pv 1) (pa_cons (pe_fld (pv 0) rfl) pa_nil)))))
    (pss_one (ps_raise rfl (takes_of rfl rfl rfl rfl) (pmk_oex T.x_3 T.in_3 T.ti_3 G1300 (hr.mono (by decide)) T.b1300 .nil pass0 (by rfl) T.cg_3 (pa_cons (pv 1) pa_nil))))
    pss_nil)
  (pss_one (ps_ret (pe_dget (hu_of hr) (pe_fld (pv 0) rfl) (pv 1) (fun _ _ => rfl))))), ?_⟩
    refine ⟨_, rfl, _, rfl, p, _, dx, _, _, rfl, o.ob, T.cl_34, T.no_34__tables, flds_t _ _ _, n, d1, tabK ts, rfl, o.tb, tab_nd o.hT, ?_⟩
    cases e : valV (tabK ts) (Sum.inr n) with
    | none => exact ⟨_, rfl, _, rfl, unk_raise (q2 e)⟩
    | some v =>
      obtain ⟨u, hu, q⟩ := q1 v e
      exact ⟨_, rfl, _, rfl, p, _, dx, _, _, rfl, o.ob, T.cl_34, T.no_34__tables, flds_t _ _ _, _, rfl, d1, u, rfl, o.tb.at_ (tab_nd o.hT) hu, q⟩
theorem ok_key_of (T : Txt K mg a d) : FnOk P w K mg base (L2.CX P w) 4 (a 4409) (d 4409) ["self", "table"] (spAsk (a 34) (a 3) (fun ts _ _ n => valV (tabK ts) (Sum.inr n)) (fun _ ks _ n => some ((valV (keyK ks) (Sum.inr n)).getD .non))) := by
  have G24 : FnOk P w K mg base CX0 1 (a 24) (d 24) ["thing", "names"] spNameIn := ok_name_in T
  have G1300 : FnOk P w K mg base CX0 1 (a 1300) (d 1300) ["self", "name"] (spUInit (a 3)) := ok_uinit T
  refine T.F4409.okX sc_Schema_key_of (fun vs H Q E h => ?_) (fun cdv A outer s H vs Q E hr h => ?_)
  · obtain ⟨p, n, ts, ks, ss, mt, ms, rfl, _⟩ := h
    rfl
  · obtain ⟨p, n, ts, ks, ss, mt, ms, rfl, ⟨dx, d1, d2, d3, o⟩, q1, q2⟩ := h
    refine ⟨_, (pss_cons (ps_if (pt_not (pt_val (pe_call G24 (hr.mono (by decide)) (by rfl) T.g24 T.F24.kp T.b24 .nil pass0 (pa_cons (pv 1) (pa_cons (pe_fld (pv 0) rfl) pa_nil)))))
    (pss_one (ps_raise rfl (takes_of rfl rfl rfl rfl) (pmk_oex T.x_3 T.in_3 T.ti_3 G1300 (hr.mono (by decide)) T.b1300 .nil pass0 (by rfl) T.cg_3 (pa_cons (pv 1) pa_nil))))
    pss_nil)
  (pss_one (ps_ret (pe_dget1 (hu_of hr) (pe_fld (pv 0) rfl) (pv 1) ⟨rfl, rfl, rfl, rfl⟩)))), ?_⟩
    refine ⟨_, rfl, _, rfl, p, _, dx, _, _, rfl, o.ob, T.cl_34, T.no_34__tables, flds_t _ _ _, n, d1, tabK ts, rfl, o.tb, tab_nd o.hT, ?_⟩
    cases e : valV (tabK ts) (Sum.inr n) with
    | none => exact ⟨_, rfl, _, rfl, unk_raise (q2 e)⟩
    | some v =>
      obtain ⟨u, hu, q⟩ := q1 v e
      cases hu
      obtain ⟨kd, ek, pk⟩ := id o.ky
      exact ⟨_, rfl, _, rfl, p, _, dx, _, _, rfl, o.ob, T.cl_34, T.no_34__keys, flds_k _ _ _, d2, rfl, .inl ⟨kd, .inl ek⟩, _, rfl, _, o.ky.get (key_nd o.hT o.hK) (Sum.inr n), q⟩
/-! ### is_whole, capped_names -/
def svAt (ss : List SvE) (n : Str) : Option SvE := ss.find? fun b => decide (b.name = n)
theorem svAt_val (n : Str) : ∀ ss : List SvE, valV (svK ss) (Sum.inr n) = (svAt ss n).map fun b => V.ref b.at_
  | [] => rfl
  | b :: ks => by
    have ih := svAt_val n ks
    unfold svAt svK at ih ⊢
    rw [List.map_cons]
    by_cases e : b.name = n
    · rw [valV_pos (by rw [e])]
      simp [e]
    · rw [valV_neg (fun z => e (Sum.inr.inj z)), ih]
      simp [e]
theorem svAt_mem {ss : List SvE} {n : Str} {b : SvE} (h : svAt ss n = some b) : b ∈ ss ∧ b.name = n := by
  unfold svAt at h
  exact ⟨List.mem_of_find?_eq_some h, by simpa using List.find?_some h⟩
def spAskW (C CU : Addr) : Sp := fun vs H Q E => ∃ (p : Addr) (n : Str) (ts : List (Str × Int)) (ks : List KeyE) (ss : List SvE) (mt ms : Nat), vs = [.ref p, .str n] ∧ SchAt C p H ts ks ss mt ms ∧
  (∀ b, svAt ss n = some b → ∀ H', Same H H' → Q (.bl (whE ts ks b)) H') ∧ (svAt ss n = none → Unk CU (.str n) H E)
end
def Low (s : Str) : Prop := ∀ c ∈ s.cps.toList, c < 128
theorem low_ok {s : Str} (h : Low s) : PyData.strOk s = true := by
  unfold PyData.strOk
  rw [Array.all_eq_true']
  intro c hc
  have := h c (by simpa using hc)
  exact decide_eq_true (by omega)
theorem dp_strs {K : PySem.W.Frag} {H : Hp} : ∀ ns : List Str, DpAll K H (ns.map V.str) (ns.map PyData.str)
  | [] => .nil
  | n :: ns => .cons (.str n) (dp_strs ns)
theorem lay_strs : ∀ ns : List Str, (∀ s ∈ ns, Low s) → PyData.canLayAll0 (ns.map PyData.str) = true ∧ PyData.depthAll (ns.map PyData.str) = 0
  | [], _ => by simp [PyData.canLayAll0, PyData.depthAll]
  | n :: ns, h => by
    obtain ⟨h1, h2⟩ := lay_strs ns fun x hx => h x (List.mem_cons_of_mem _ hx)
    simp only [List.map_cons, PyData.canLayAll0, PyData.depthAll, PyData.canLay0, PyData.depth, low_ok (h n List.mem_cons_self), h1, h2, Bool.and_self, true_and]
    rfl
theorem strs_data {K : PySem.W.Frag} {H : Hp} {ns : List Str} (h : ∀ s ∈ ns, Low s) : ∃ dd, (∀ r, H r = some (.lst (ns.map V.str)) → Dp K H (.ref r) dd) ∧ SeqAt.shaped dd = true ∧ PyData.eqv dd dd = true := by
  obtain ⟨h1, h2⟩ := lay_strs ns h
  have hc : (PyData.list (ns.map PyData.str)).canLay0 = true := by simp only [PyData.canLay0, h1]
  refine ⟨.list (ns.map PyData.str), fun r hr => .lst (.of hr) (dp_strs ns), ?_, PySem.SeqAt.eqv_refl _ hc⟩
  unfold SeqAt.shaped
  rw [hc, Bool.true_and]
  exact decide_eq_true (by simp only [PyData.depth, h2]; omega)
theorem wd_low {s : Str} (h : Wd s) : Low s := fun c hc => by
  have := (h.2.2 c hc).2
  omega
theorem str_shaped {x : Str} (h : Low x) : SeqAt.shaped (.str x) = true := by
  unfold SeqAt.shaped
  simp only [PyData.canLay0, PyData.depth, low_ok h]
  rfl
theorem strs_shapedL {ns : List Str} (h : ∀ s ∈ ns, Low s) : SeqAt.shaped (.list (ns.map PyData.str)) = true := by
  obtain ⟨h1, h2⟩ := lay_strs ns h
  unfold SeqAt.shaped
  simp only [PyData.canLay0, PyData.depth, h1, h2]
  decide
/-! ### things of any kind -/
def tupOf (H : Hp) : V → Option (List V)
  | .ref a => match H a with
    | some (.tup xs) => some xs
    | _ => none
  | _ => none
theorem tupOf_tup {H : Hp} {a : Addr} {xs : List V} (e : H a = some (.tup xs)) : tupOf H (.ref a) = some xs := by
  show (match H a with | some (.tup xs) => some xs | _ => none) = _
  rw [e]
theorem tupOf_lst {H : Hp} {a : Addr} {xs : List V} (e : H a = some (.lst xs)) : tupOf H (.ref a) = none := by
  show (match H a with | some (.tup xs) => some xs | _ => none) = _
  rw [e]
def goCols (w : Int) : Int → List V → Bool
  | _, [] => true
  | l, .int i :: xs => decide (l ≤ i ∧ i < w) && goCols w (i + 1) xs
  | _, _ :: _ => false
def colsB (H : Hp) (v : V) (w : Int) : Bool := match tupOf H v with
  | some xs => goCols w 0 xs
  | none => false
def countB (m : Int) : V → Bool
  | .int i => decide (1 ≤ i ∧ i ≤ m)
  | _ => false
def keyB (H : Hp) (v : V) (w : Int) : Bool := match tupOf H v with
  | some xs => goCols w 0 xs && decide (0 < (xs.length : Int) ∧ (xs.length : Int) < w)
  | none => false
def widthOf (kvs : List (Key × V)) (n : Str) : Option Int := match valV kvs (Sum.inr n) with
  | some (.int w) => some w
  | _ => none
def svcL (H : Hp) (kvs : List (Key × V)) : List V → Bool
  | [x, g, c] => (match x with
    | .str n => (match widthOf kvs n with
      | some w => colsB H g w
      | none => false)
    | _ => false) && (decide (c = .non) || countB 4 c)
  | _ => false
def svcB (H : Hp) (kvs : List (Key × V)) (v : V) : Bool := match tupOf H v with
  | some xs => svcL H kvs xs
  | none => false
theorem svcL_len {H : Hp} {kvs : List (Key × V)} : ∀ {xs : List V}, xs.length ≠ 3 → svcL H kvs xs = false
  | [], _ => rfl
  | [_], _ => rfl
  | [_, _], _ => rfl
  | [_, _, _], h => absurd rfl h
  | _ :: _ :: _ :: _ :: _, _ => rfl
/-- what was a tuple or a list is one still -/
structure Kp (H H' : Hp) : Prop where
  tup : ∀ a xs, H a = some (.tup xs) → H' a = some (.tup xs)
  lst : ∀ a xs, H a = some (.lst xs) → ∃ ys, H' a = some (.lst ys)
theorem Kp.refl (H : Hp) : Kp H H := ⟨fun _ _ e => e, fun _ xs e => ⟨xs, e⟩⟩
theorem Kp.trans {H H1 H2 : Hp} (a : Kp H H1) (b : Kp H1 H2) : Kp H H2 := ⟨fun x xs e => b.tup _ _ (a.tup x xs e), fun x xs e => by
  obtain ⟨ys, e1⟩ := a.lst x xs e
  exact b.lst x ys e1⟩
theorem Kp.same {H H' : Hp} (s : Same H H') : Kp H H' := ⟨fun _ _ e => s _ _ e, fun _ xs e => ⟨xs, s _ _ e⟩⟩
theorem Kp.chg {H H' : Hp} {p : Addr} (hP : PoolAt H p) (c : Chg p H H') : Kp H H' := ⟨chg_tup hP c, fun a xs e => by
  by_cases n : a = p
  · subst n
    obtain ⟨p0, p1, p2, p3, r, e', _⟩ := c.1
    exact ⟨_, e'⟩
  · exact ⟨xs, c.at n e⟩⟩
theorem Kp.dict {H : Hp} {t : Addr} {kvs : List (Key × V)} {o : HO} (e : H t = some (.dK kvs)) : Kp H (upd H t o) := ⟨upd_tup e (by intro _ z; cases z), fun a xs e' => ⟨xs, by
  rw [upd_ne (ne_of e' e (by intro z; cases z))]
  exact e'⟩⟩
theorem Thg.kp {H H' : Hp} {v : V} (h : Thg H v) (k : Kp H H') : Thg H' v := by
  cases h with
  | int i => exact .int i
  | bl b => exact .bl b
  | non => exact .non
  | str s h hc => exact .str s h hc
  | lst e =>
    obtain ⟨ys, e'⟩ := k.lst _ _ e
    exact .lst e'
  | tup e => exact .tup (k.tup _ _ e)
theorem tupOf_kp {H H' : Hp} {v : V} (h : Thg H v) (k : Kp H H') : tupOf H' v = tupOf H v := by
  cases h with
  | int i => rfl
  | bl b => rfl
  | non => rfl
  | str s h hc => rfl
  | lst e =>
    obtain ⟨ys, e'⟩ := k.lst _ _ e
    rw [tupOf_lst e, tupOf_lst e']
  | tup e => rw [tupOf_tup e, tupOf_tup (k.tup _ _ e)]
/-- a thing; if it is a tuple, its parts are things -/
structure Th1 (H : Hp) (v : V) : Prop where
  th : Thg H v
  it : ∀ xs, tupOf H v = some xs → xs.length ≤ 100 ∧ ∀ x ∈ xs, Thg H x
structure Th2 (H : Hp) (v : V) : Prop where
  th : Thg H v
  it : ∀ xs, tupOf H v = some xs → xs.length ≤ 100 ∧ ∀ x ∈ xs, Th1 H x
theorem Th1.kp {H H' : Hp} {v : V} (h : Th1 H v) (k : Kp H H') : Th1 H' v := ⟨h.th.kp k, fun xs e => by
  rw [tupOf_kp h.th k] at e
  exact ⟨(h.it xs e).1, fun x hx => ((h.it xs e).2 x hx).kp k⟩⟩
theorem Th2.kp {H H' : Hp} {v : V} (h : Th2 H v) (k : Kp H H') : Th2 H' v := ⟨h.th.kp k, fun xs e => by
  rw [tupOf_kp h.th k] at e
  exact ⟨(h.it xs e).1, fun x hx => ((h.it xs e).2 x hx).kp k⟩⟩
theorem Th1.flat {H : Hp} {v : V} (h : Thg H v) (n : tupOf H v = none) : Th1 H v := ⟨h, fun xs e => by rw [n] at e; cases e⟩
theorem Th2.flat {H : Hp} {v : V} (h : Thg H v) (n : tupOf H v = none) : Th2 H v := ⟨h, fun xs e => by rw [n] at e; cases e⟩
theorem Th1.tup {H : Hp} {a : Addr} {xs : List V} (e : H a = some (.tup xs)) (l : xs.length ≤ 100) (h : ∀ x ∈ xs, Thg H x) : Th1 H (.ref a) := ⟨.tup e, fun ys e' => by
  rw [tupOf_tup e] at e'
  cases e'
  exact ⟨l, h⟩⟩
theorem Th2.tup {H : Hp} {a : Addr} {xs : List V} (e : H a = some (.tup xs)) (l : xs.length ≤ 100) (h : ∀ x ∈ xs, Th1 H x) : Th2 H (.ref a) := ⟨.tup e, fun ys e' => by
  rw [tupOf_tup e] at e'
  cases e'
  exact ⟨l, h⟩⟩
theorem Th1.up {H : Hp} {v : V} (h : Th1 H v) (hx : ∀ xs, tupOf H v = some xs → ∀ x ∈ xs, tupOf H x = none) : Th2 H v := ⟨h.th, fun xs e => ⟨(h.it xs e).1, fun x hm => .flat ((h.it xs e).2 x hm) (hx xs e x hm)⟩⟩
theorem colsB_kp {H H' : Hp} {v : V} {w : Int} (h : Thg H v) (k : Kp H H') : colsB H' v w = colsB H v w := by
  unfold colsB
  rw [tupOf_kp h k]
theorem keyB_kp {H H' : Hp} {v : V} {w : Int} (h : Thg H v) (k : Kp H H') : keyB H' v w = keyB H v w := by
  unfold keyB
  rw [tupOf_kp h k]
/-! ### a dict of names -/
def kvK (kv : List (Str × V)) : List (Key × V) := kv.map fun p => (Sum.inr p.1, p.2)
theorem keys_kv (kv : List (Str × V)) : (kvK kv).map (·.1) = (kv.map (·.1)).map Sum.inr := by
  unfold kvK
  rw [List.map_map, List.map_map]
  rfl
theorem kv_nd {kv : List (Str × V)} (h : (kv.map (·.1)).Nodup) : ((kvK kv).map (·.1)).Nodup := by
  rw [keys_kv]
  exact inr_nd h
def valN (kv : List (Str × V)) (n : Str) : V := (valV (kvK kv) (Sum.inr n)).getD .non
theorem valN_mem {kv : List (Str × V)} {n : Str} (h : n ∈ kv.map (·.1)) (nd : (kv.map (·.1)).Nodup) : valV (kvK kv) (Sum.inr n) = some (valN kv n) ∧ (n, valN kv n) ∈ kv := by
  obtain ⟨p, hp, rfl⟩ := List.mem_map.mp h
  have e : valV (kvK kv) (Sum.inr p.1) = some p.2 := val_nodup (kvs := kvK kv) (kv_nd nd) (Sum.inr p.1, p.2) (List.mem_map.mpr ⟨p, hp, rfl⟩)
  have e2 : valN kv p.1 = p.2 := by
    unfold valN
    rw [e]
    rfl
  rw [e2]
  exact ⟨e, hp⟩
/-- names that are texts of small signs -/
def NmOk (s : Str) : Prop := s.length ≤ 100 ∧ Low s
theorem NmOk.thg {H : Hp} {s : Str} (h : NmOk s) : Thg H (.str s) := .str s (by have := h.1; omega) fun c hc => h.2 c hc
structure Dn (H : Hp) (t : Addr) (kv : List (Str × V)) : Prop where
  at_ : H t = some (.dK (kvK kv))
  nd : (kv.map (·.1)).Nodup
  nm : ∀ p ∈ kv, NmOk p.1
  len : kv.length < 64
theorem Dn.get {H : Hp} {t : Addr} {kv : List (Str × V)} (h : Dn H t kv) {n : Str} (hn : n ∈ kv.map (·.1)) : DGet H t (.str n) (some (valN kv n)) := by
  have g := DGet.k (k := Sum.inr n) h.at_
  rw [(valN_mem hn h.nd).1] at g
  exact g
noncomputable def sortN (ns : List Str) : List Str := Classical.epsilon fun ys => ys.Perm ns ∧ PyProof.Rows.sortedS ys = true
theorem sortN_eq {ns ys : List Str} (p : ys.Perm ns) (s : PyProof.Rows.sortedS ys = true) : sortN ns = ys := by
  have h := Classical.epsilon_spec (p := fun ys : List Str => ys.Perm ns ∧ PyProof.Rows.sortedS ys = true) ⟨ys, p, s⟩
  exact sorted_uniq (h.1.trans p.symm) h.2 s
theorem find_at {α : Type} {p : α → Bool} {x : α} : ∀ {ys : List α} {i : Nat}, (∀ y ∈ ys.take i, p y = false) → ys[i]? = some x → p x = true → ys.find? p = some x
  | [], _, _, h, _ => by simp at h
  | y :: ys, 0, _, h, e => by
    cases h
    exact List.find?_cons_of_pos e
  | y :: ys, i + 1, h, hx, e => by
    rw [List.find?_cons_of_neg (by rw [h y (by simp)]; decide)]
    exact find_at (i := i) (fun z hz => h z (by simp [hz])) (by simpa using hx) e
theorem find_no {α : Type} {p : α → Bool} {ys : List α} (h : ∀ y ∈ ys, p y = false) : ys.find? p = none := List.find?_eq_none.mpr fun y hy => by rw [h y hy]; decide
theorem take_snoc {α : Type} {ys : List α} {i : Nat} {x : α} (h : ys[i]? = some x) : ys.take (i + 1) = ys.take i ++ [x] := by
  rw [List.take_add_one, h]
  rfl
/-- how an error of two fields goes out -/
def Er2 (C : Addr) (f g : Str) (u v : V) (H : Hp) (E : XK) : Prop := ∀ dx H', H dx = none → H' dx = some (.xd [(g, v), (f, u)]) → Same H H' → E (.ref C) (some dx) H'
def spI2 (C : Addr) (f g : Str) : Sp := fun vs H Q _ => ∃ (x : Addr) (u v : V), vs = [.ref x, u, v] ∧ H x = some (exo x C none) ∧ ∀ dx H', H dx = none → dx ≠ x → H' x = some (exo x C (some dx)) → H' dx = some (exd dx [(g, v), (f, u)]) → (∀ b o, b ≠ x → b ≠ dx → H b = some o → H' b = some o) → Q .non H'
theorem er2_raise {C : Addr} {f g : Str} {u v : V} {H : Hp} {E : XK} (k : Er2 C f g u v H E) : ([u, v] : List V).length ≤ 1000 ∧ ∀ x, H x = none → spI2 C f g (.ref x :: ([u, v] ++ [])) (upd H x (exo x C none))
    (fun z H2 => z = .non ∧ ∃ (dd : Addr) (fs : List (Str × V)), H2 x = some (exo x C (some dd)) ∧ H2 dd = some (exd dd fs) ∧ H dd = none ∧ E (.ref C) (some dd) (upd (del H2 x) dd (.xd fs))) (fun _ _ _ => False) := by
  refine ⟨by show 2 ≤ 1000; decide, fun x hx => ⟨x, u, v, rfl, upd_same, fun dx H' hdx ne e1 e2 keep => ⟨rfl, dx, _, e1, e2, ?_, ?_⟩⟩⟩
  · rw [upd_ne ne] at hdx
    exact hdx
  · rw [upd_ne ne] at hdx
    refine k dx _ hdx upd_same fun b o e => ?_
    have nb : b ≠ x := ne_of_none e hx
    have nd : b ≠ dx := ne_of_none e hdx
    rw [upd_ne nd, del_ne nb]
    exact keep b o nb nd (by rw [upd_ne nb]; exact e)
theorem Thg.tyT {K : PySem.W.Frag} {H : Hp} {v : V} (h : Thg H v) : ∃ n, TyX K H v (.type n) ∧ kitB n "tuple" = some (tupOf H v).isSome := by
  cases h with
  | int i => exact ⟨_, .base (.int _), show kitB "int" "tuple" = some false by decide +kernel⟩
  | bl b => exact ⟨_, .base (.bl _), show kitB "bool" "tuple" = some false by decide +kernel⟩
  | non => exact ⟨_, .base .non, show kitB "NoneType" "tuple" = some false by decide +kernel⟩
  | str s => exact ⟨_, .base (.str _), show kitB "str" "tuple" = some false by decide +kernel⟩
  | lst e => exact ⟨_, .base (.lst e), by rw [tupOf_lst e]; exact show kitB "list" "tuple" = some false by decide +kernel⟩
  | tup e => exact ⟨_, .base (.tup e), by rw [tupOf_tup e]; exact show kitB "tuple" "tuple" = some true by decide +kernel⟩
theorem tupOf_some {H : Hp} {v : V} {xs : List V} (h : tupOf H v = some xs) : ∃ a, v = .ref a ∧ H a = some (.tup xs) := by
  cases v with
  | ref a =>
    refine ⟨a, rfl, ?_⟩
    have h' : (match H a with | some (.tup xs) => some xs | _ => none) = some xs := h
    cases e : H a with
    | none => rw [e] at h'; cases h'
    | some o =>
      rw [e] at h'
      cases o <;> first | (cases h'; rfl) | cases h'
  | _ => cases h
/-! ### two dicts by what they hold -/
def valP (f : List (Key × PyData)) (k : Key) : Option PyData := (f.find? fun p => decide (p.1 = k)).map (·.2)
def optE : Option PyData → Option PyData → Bool
  | none, none => true
  | some a, some b => PyData.eqv a b
  | _, _ => false
def eqP (f g : List (Key × PyData)) : Bool := (f.length == g.length) && f.all fun p => match valP g p.1 with
  | none => false
  | some v => PyData.eqv p.2 v
theorem valP_mem {k : Key} {v : PyData} {f : List (Key × PyData)} (h : valP f k = some v) : (k, v) ∈ f := by
  unfold valP at h
  cases e : f.find? fun p => decide (p.1 = k) with
  | none => rw [e] at h; cases h
  | some p =>
    rw [e] at h
    have h1 := List.mem_of_find?_eq_some e
    have h2 : p.1 = k := by simpa using List.find?_some e
    have h3 : p = (k, v) := by rw [← h2, ← Option.some.inj h]
    rw [← h3]
    exact h1
theorem valP_nd {f : List (Key × PyData)} (nd : (f.map (·.1)).Nodup) {k : Key} {v : PyData} (h : (k, v) ∈ f) : valP f k = some v := by
  induction f with
  | nil => cases h
  | cons p f ih =>
    rw [List.map_cons] at nd
    obtain ⟨n1, n2⟩ := List.nodup_cons.mp nd
    unfold valP at ih ⊢
    rcases List.mem_cons.mp h with rfl | h
    · rw [List.find?_cons_of_pos (by simp)]
      rfl
    · rw [List.find?_cons_of_neg ?_]
      · exact ih n2 h
      · intro z
        have z' : p.1 = k := by simpa using z
        exact n1 (by rw [z']; exact List.mem_map.mpr ⟨_, h, rfl⟩)
theorem valP_none {f : List (Key × PyData)} {k : Key} (h : valP f k = none) : k ∉ f.map (·.1) := fun hm => by
  obtain ⟨p, hp, e⟩ := List.mem_map.mp hm
  unfold valP at h
  cases e2 : f.find? fun p => decide (p.1 = k) with
  | some q => rw [e2] at h; cases h
  | none =>
    have := List.find?_eq_none.mp e2 p hp
    simp [e] at this
theorem eqP_iff {f g : List (Key × PyData)} (nf : (f.map (·.1)).Nodup) (ng : (g.map (·.1)).Nodup) : eqP f g = true ↔ ∀ k, optE (valP f k) (valP g k) = true := by
  unfold eqP
  rw [Bool.and_eq_true, List.all_eq_true, beq_iff_eq]
  constructor
  · rintro ⟨h1, h2⟩ k
    have sub : ∀ x ∈ f.map (·.1), x ∈ g.map (·.1) := fun x hx => by
      obtain ⟨p, hp, rfl⟩ := List.mem_map.mp hx
      have := h2 p hp
      cases e : valP g p.1 with
      | none => rw [e] at this; cases this
      | some v => exact List.mem_map.mpr ⟨_, valP_mem e, rfl⟩
    have back := (nd_sub nf sub).2 (by rw [List.length_map, List.length_map, h1]; exact Nat.le_refl _)
    cases e1 : valP f k with
    | none =>
      cases e2 : valP g k with
      | none => rfl
      | some v => exact absurd (back k (List.mem_map.mpr ⟨_, valP_mem e2, rfl⟩)) (valP_none e1)
    | some u =>
      have := h2 _ (valP_mem e1)
      cases e2 : valP g k with
      | none =>
        have e2' : valP g (k, u).1 = none := e2
        rw [e2'] at this
        cases this
      | some v =>
        have e2' : valP g (k, u).1 = some v := e2
        rw [e2'] at this
        exact this
  · intro h
    have key : ∀ f g : List (Key × PyData), (∀ k, optE (valP f k) (valP g k) = true) → (f.map (·.1)).Nodup → ∀ x ∈ f.map (·.1), x ∈ g.map (·.1) := fun f g h nf x hx => by
      obtain ⟨p, hp, rfl⟩ := List.mem_map.mp hx
      have := h p.1
      rw [valP_nd nf (k := p.1) (v := p.2) hp] at this
      cases e : valP g p.1 with
      | none => rw [e] at this; cases this
      | some v => exact List.mem_map.mpr ⟨_, valP_mem e, rfl⟩
    have h' : ∀ k, optE (valP g k) (valP f k) = true := fun k => by
      have := h k
      cases e1 : valP f k <;> cases e2 : valP g k <;> rw [e1, e2] at this <;> try (first | rfl | cases this)
      show PyData.eqv _ _ = true
      rw [PySem.W.eqv_comm]
      exact this
    have l1 := (nd_sub nf (key f g h nf)).1
    have l2 := (nd_sub ng (key g f h' ng)).1
    rw [List.length_map, List.length_map] at l1 l2
    refine ⟨by omega, fun p hp => ?_⟩
    have := h p.1
    rw [valP_nd nf (k := p.1) (v := p.2) hp] at this
    cases e : valP g p.1 with
    | none => rw [e] at this; cases this
    | some v => rw [e] at this; exact this
theorem optE_comm (a b : Option PyData) : optE a b = optE b a := by
  cases a <;> cases b <;> try rfl
  exact PySem.W.eqv_comm _ _
theorem eqP_comm {f g : List (Key × PyData)} (nf : (f.map (·.1)).Nodup) (ng : (g.map (·.1)).Nodup) : eqP f g = eqP g f := by
  apply Bool.eq_iff_iff.mpr
  rw [eqP_iff nf ng, eqP_iff ng nf]
  exact ⟨fun h k => by rw [optE_comm]; exact h k, fun h k => by rw [optE_comm]; exact h k⟩
theorem permP_nd {f g : List (Key × PyData)} (p : f.Perm g) (ng : (g.map (·.1)).Nodup) : (f.map (·.1)).Nodup := (p.map (·.1)).nodup_iff.mpr ng
theorem valP_perm {f g : List (Key × PyData)} (p : f.Perm g) (ng : (g.map (·.1)).Nodup) (k : Key) : valP f k = valP g k := by
  cases h : valP g k with
  | some v => exact valP_nd (permP_nd p ng) (p.mem_iff.mpr (valP_mem h))
  | none =>
    cases h' : valP f k with
    | none => rfl
    | some v => rw [valP_nd ng (p.mem_iff.mp (valP_mem h'))] at h; cases h
theorem eqP_perm {f f' g g' : List (Key × PyData)} (p : f.Perm f') (q : g.Perm g') (nf : (f'.map (·.1)).Nodup) (ng : (g'.map (·.1)).Nodup) : eqP f g = eqP f' g' := by
  apply Bool.eq_iff_iff.mpr
  rw [eqP_iff (permP_nd p nf) (permP_nd q ng), eqP_iff nf ng]
  exact ⟨fun h k => by have := h k; rw [valP_perm p nf, valP_perm q ng] at this; exact this, fun h k => by rw [valP_perm p nf, valP_perm q ng]; exact h k⟩
theorem eqP_refl {f : List (Key × PyData)} (nf : (f.map (·.1)).Nodup) (hd : ∀ p ∈ f, SeqAt.shaped p.2 = true) : eqP f f = true := by
  rw [eqP_iff nf nf]
  intro k
  cases e : valP f k with
  | none => rfl
  | some v => exact PySem.SeqAt.eqv_refl v (PySem.SeqAt.canLay_of_shaped (hd _ (valP_mem e)))
/-! data at an address, two levels deep -/
def dt0 : V → PyData
  | .int i => .int i
  | .str s => .str s
  | .bl b => .bool b
  | _ => .none
def dt1 (H : Hp) : V → PyData
  | .ref a => match H a with
    | some (.tup xs) => .tuple (xs.map dt0)
    | _ => .none
  | v => dt0 v
def dt2 (H : Hp) : V → PyData
  | .ref a => match H a with
    | some (.tup xs) => .tuple (xs.map (dt1 H))
    | _ => .none
  | v => dt0 v
/-- a dict at t that holds this data, in any order -/
def DDat (K : PySem.W.Frag) (H : Hp) (t : Addr) (f : List (Key × PyData)) : Prop := ∃ ks, H t = some (.dK ks) ∧ (ks.map fun p => (p.1, dt2 H p.2)).Perm f ∧ ∀ p ∈ ks, Dp K H p.2 (dt2 H p.2) ∧ SeqAt.shaped (dt2 H p.2) = true
theorem valP_map (D : V → PyData) (k : Key) : ∀ ls : List (Key × V), valP (ls.map fun p => (p.1, D p.2)) k = (valV ls k).map D
  | [] => rfl
  | p :: ls => by
    have ih := valP_map D k ls
    unfold valP at ih ⊢
    rw [List.map_cons]
    by_cases e : p.1 = k
    · rw [valV_pos e, List.find?_cons_of_pos (by simp [e])]
      rfl
    · rw [valV_neg e, List.find?_cons_of_neg (by simp [e])]
      exact ih
theorem eqT_P (D : V → PyData) (ks ls : List (Key × V)) : L2.eqT D ks ls = eqP (ks.map fun p => (p.1, D p.2)) (ls.map fun p => (p.1, D p.2)) := by
  unfold L2.eqT eqP
  rw [List.length_map, List.length_map, List.all_map]
  congr 1
  congr 1
  funext p
  show (match valV ls p.1 with | none => false | some v => PyData.eqv (D p.2) (D v)) = match valP (ls.map fun p => (p.1, D p.2)) p.1 with | none => false | some v => PyData.eqv (D p.2) v
  rw [valP_map]
  cases valV ls p.1 <;> rfl
theorem rEqT_of {K : PySem.W.Frag} {H : Hp} {a b : Addr} {f g : List (Key × PyData)} {neg : Bool} {Q : VK} (h1 : DDat K H a f) (h2 : DDat K H b g) (nf : (f.map (·.1)).Nodup) (ng : (g.map (·.1)).Nodup) (q : Q (.bl (if neg then !eqP f g else eqP f g)) H) : rEqT K neg (.ref a) (.ref b) H Q := by
  obtain ⟨ks, e1, p1, d1⟩ := h1
  obtain ⟨ls, e2, p2, d2⟩ := h2
  refine ⟨a, b, ks, ls, dt2 H, rfl, rfl, e1, e2, d1, d2, ?_⟩
  rw [eqT_P, eqP_perm p1 p2 nf ng]
  exact q
theorem DDat.of {K : PySem.W.Frag} {H : Hp} {t : Addr} {kvs : List (Key × V)} {f : List (Key × PyData)} (h : DctAt H t kvs) (e : (kvs.map fun p => (p.1, dt2 H p.2)) = f) (hd : ∀ p ∈ kvs, Dp K H p.2 (dt2 H p.2) ∧ SeqAt.shaped (dt2 H p.2) = true) : DDat K H t f := by
  obtain ⟨ks, e1, p⟩ := h
  exact ⟨ks, e1, by rw [← e]; exact p.map _, fun x hx => hd x (p.mem_iff.mp hx)⟩
/-! the data of tables, keys and services -/
def tabP (ts : List (Str × Int)) : List (Key × PyData) := ts.map fun p => (Sum.inr p.1, .int p.2)
def keyP (ks : List KeyE) : List (Key × PyData) := ks.map fun b => (Sum.inr b.1, .tuple (b.2.2.map PyData.int))
def capP : Option Int → PyData
  | none => .none
  | some c => .int c
def svP (ss : List SvE) : List (Key × PyData) := ss.map fun b => (Sum.inr b.name, .tuple [.str b.tab, .tuple (b.cols.map PyData.int), capP b.cap])
theorem tabP_nd {ts : List (Str × Int)} {m : Nat} {wm : Int} (h : Tabs ts m wm) : ((tabP ts).map (·.1)).Nodup := by
  have := tab_nd h
  unfold tabK at this
  unfold tabP
  rw [List.map_map] at this ⊢
  exact this
theorem keyP_nd {H : Hp} {ts : List (Str × Int)} {ks : List KeyE} (h : Keys H ts ks) : ((keyP ks).map (·.1)).Nodup := by
  have := inr_nd h.nd
  unfold keyP
  rw [List.map_map] at this ⊢
  exact this
theorem svP_nd {ss : List SvE} {n : Nat} (h : Nms (ss.map (·.name)) n) : ((svP ss).map (·.1)).Nodup := by
  have := inr_nd h.nd
  unfold svP
  rw [List.map_map] at this ⊢
  exact this
theorem wd_strOk {s : Str} (h : Wd s) : PyData.strOk s = true := by
  unfold PyData.strOk
  rw [Array.all_eq_true_iff_forall_mem]
  intro c hc
  have := (h.2.2 c (Array.mem_toList_iff.mpr hc)).2
  exact decide_eq_true (by omega)
theorem ints_tup_shaped (ns : List Int) : SeqAt.shaped (.tuple (ns.map PyData.int)) = true := by
  obtain ⟨h1, h2⟩ := lay_ints ns
  show ((PyData.tuple (ns.map PyData.int)).canLay0 && decide ((PyData.tuple (ns.map PyData.int)).depth ≤ 64)) = true
  simp only [PyData.canLay0, PyData.depth, h1, h2]
  decide
theorem sv_shaped {n : Str} (hn : PyData.strOk n = true) (ns : List Int) (c : Option Int) : SeqAt.shaped (.tuple [.str n, .tuple (ns.map PyData.int), capP c]) = true := by
  obtain ⟨h1, h2⟩ := lay_ints ns
  show ((PyData.tuple [.str n, .tuple (ns.map PyData.int), capP c]).canLay0 && decide ((PyData.tuple [.str n, .tuple (ns.map PyData.int), capP c]).depth ≤ 64)) = true
  cases c <;> simp only [PyData.canLay0, PyData.depth, PyData.canLayAll0, PyData.depthAll, capP, h1, h2, hn] <;> decide
theorem dt1_ints {H : Hp} {a : Addr} {ns : List Int} (h : H a = some (.tup (ns.map V.int))) : dt1 H (.ref a) = .tuple (ns.map PyData.int) := by
  show (match H a with | some (.tup xs) => PyData.tuple (xs.map dt0) | _ => .none) = _
  rw [h]
  show PyData.tuple ((ns.map V.int).map dt0) = _
  rw [List.map_map]
  rfl
theorem dt2_ints {H : Hp} {a : Addr} {ns : List Int} (h : H a = some (.tup (ns.map V.int))) : dt2 H (.ref a) = .tuple (ns.map PyData.int) := by
  show (match H a with | some (.tup xs) => PyData.tuple (xs.map (dt1 H)) | _ => .none) = _
  rw [h]
  show PyData.tuple ((ns.map V.int).map (dt1 H)) = _
  rw [List.map_map]
  rfl
theorem dt_cap (H : Hp) (c : Option Int) : dt1 H (capV c) = capP c := by cases c <;> rfl
theorem dp_cap {K : PySem.W.Frag} {H : Hp} (c : Option Int) : Dp K H (capV c) (capP c) := by
  cases c with
  | none => exact .non
  | some i => exact .int i
theorem dt2_told {H : Hp} {v ga : Addr} {n : Str} {cs : List Int} {c : Option Int} (h : Told H v n ga cs c) : dt2 H (.ref v) = .tuple [.str n, .tuple (cs.map PyData.int), capP c] := by
  show (match H v with | some (.tup xs) => PyData.tuple (xs.map (dt1 H)) | _ => .none) = _
  rw [h.tup]
  show PyData.tuple [dt1 H (.str n), dt1 H (.ref ga), dt1 H (capV c)] = _
  rw [dt1_ints h.cols, dt_cap]
  rfl
theorem ddat_tab {K : PySem.W.Frag} {H : Hp} {t : Addr} {ts : List (Str × Int)} (h : DctAt H t (tabK ts)) : DDat K H t (tabP ts) := by
  refine .of h ?_ fun p hp => ?_
  · unfold tabK tabP
    rw [List.map_map]
    rfl
  · obtain ⟨b, _, rfl⟩ := List.mem_map.mp hp
    exact ⟨.int _, rfl⟩
theorem ddat_key {K : PySem.W.Frag} {H : Hp} {t : Addr} {ts : List (Str × Int)} {ks : List KeyE} (h : DctAt H t (keyK ks)) (hK : Keys H ts ks) : DDat K H t (keyP ks) := by
  refine .of h ?_ fun p hp => ?_
  · unfold keyK keyP
    rw [List.map_map]
    refine List.map_congr_left fun b hb => ?_
    show (Sum.inr b.1, dt2 H (.ref b.2.1)) = _
    rw [dt2_ints (hK.at_ b hb)]
  · obtain ⟨b, hb, rfl⟩ := List.mem_map.mp hp
    show Dp K H (.ref b.2.1) (dt2 H (.ref b.2.1)) ∧ SeqAt.shaped (dt2 H (.ref b.2.1)) = true
    rw [dt2_ints (hK.at_ b hb)]
    exact ⟨.tup (.of (hK.at_ b hb)) (dp_ints _), ints_tup_shaped _⟩
theorem ddat_sv {K : PySem.W.Frag} {H : Hp} {t : Addr} {ss : List SvE} (h : DctAt H t (svK ss)) (hS : ∀ b ∈ ss, Told H b.at_ b.tab b.ga b.cols b.cap ∧ Wd b.tab) : DDat K H t (svP ss) := by
  refine .of h ?_ fun p hp => ?_
  · unfold svK svP
    rw [List.map_map]
    refine List.map_congr_left fun b hb => ?_
    show (Sum.inr b.name, dt2 H (.ref b.at_)) = _
    rw [dt2_told (hS b hb).1]
  · obtain ⟨b, hb, rfl⟩ := List.mem_map.mp hp
    show Dp K H (.ref b.at_) (dt2 H (.ref b.at_)) ∧ SeqAt.shaped (dt2 H (.ref b.at_)) = true
    rw [dt2_told (hS b hb).1]
    exact ⟨.tup (.of (hS b hb).1.tup) (.cons (.str _) (.cons (.tup (.of (hS b hb).1.cols) (dp_ints _)) (.cons (dp_cap _) .nil))), sv_shaped (wd_strOk (hS b hb).2) _ _⟩
/-! ### uncapped -/
def uncE (ss : List SvE) (n : Str) (p : Addr) : List SvE := ss.map fun c => if c.name = n then { c with at_ := p, cap := none } else c
theorem uncE_names (ss : List SvE) (n : Str) (p : Addr) : (uncE ss n p).map (·.name) = ss.map (·.name) := by
  unfold uncE
  rw [List.map_map]
  refine List.map_congr_left fun c _ => ?_
  show (if c.name = n then _ else c).name = c.name
  split <;> rfl
theorem fillE_unc (ts : List (Str × Int)) (ks : List KeyE) (n : Str) (p : Addr) : ∀ ss : List SvE, (fillE ts ks (uncE ss n p)).Sublist (fillE ts ks ss)
  | [] => List.Sublist.refl _
  | c :: ss => by
    have ih := fillE_unc ts ks n p ss
    unfold fillE uncE at ih ⊢
    rw [List.map_cons]
    by_cases e : c.name = n
    · rw [if_pos e]
      have hw : whE ts ks { c with at_ := p, cap := none } = true := rfl
      rw [List.filter_cons_of_neg (by rw [hw]; decide)]
      by_cases h : whE ts ks c = true
      · rw [List.filter_cons_of_neg (by rw [h]; decide)]
        exact ih
      · rw [List.filter_cons_of_pos (by simp [h]), List.map_cons]
        exact ih.cons _
    · rw [if_neg e]
      by_cases h : whE ts ks c = true
      · rw [List.filter_cons_of_neg (by rw [h]; decide), List.filter_cons_of_neg (by rw [h]; decide)]
        exact ih
      · rw [List.filter_cons_of_pos (by simp [h]), List.filter_cons_of_pos (by simp [h]), List.map_cons, List.map_cons]
        exact ih.cons₂ _
theorem putK_map {ss : List SvE} {n : Str} (p : Addr) (h : n ∈ ss.map (·.name)) : putK (svK ss) (Sum.inr n) (V.ref p) = svK (uncE ss n p) := by
  unfold putK
  have ha : ((svK ss).any fun kv => decide (kv.1 = Sum.inr n)) = true := by
    obtain ⟨b, hb, e⟩ := List.mem_map.mp h
    exact List.any_eq_true.mpr ⟨_, List.mem_map.mpr ⟨b, hb, rfl⟩, decide_eq_true (by rw [e])⟩
  rw [if_pos ha]
  unfold svK uncE
  rw [List.map_map, List.map_map]
  refine List.map_congr_left fun c _ => ?_
  show (if (Sum.inr c.name : Key) = Sum.inr n then _ else _) = (fun b : SvE => ((Sum.inr b.name : Key), V.ref b.at_)) (if c.name = n then _ else c)
  by_cases e : c.name = n
  · rw [if_pos e, if_pos (by rw [e])]
  · rw [if_neg e, if_neg (fun z => e (Sum.inr.inj z))]
theorem putK_perm {κ : Type} [DecidableEq κ] {a b : List (κ × V)} (p : a.Perm b) (k : κ) (v : V) : (putK a k v).Perm (putK b k v) := by
  unfold putK
  have e : (a.any fun kv => decide (kv.1 = k)) = b.any fun kv => decide (kv.1 = k) := by
    apply Bool.eq_iff_iff.mpr
    rw [List.any_eq_true, List.any_eq_true]
    exact ⟨fun ⟨x, hx, h⟩ => ⟨x, p.mem_iff.mp hx, h⟩, fun ⟨x, hx, h⟩ => ⟨x, p.mem_iff.mpr hx, h⟩⟩
  rw [e]
  split
  · exact p.map _
  · exact p.append_right _
theorem name_uniq : ∀ {ss : List SvE} {b c : SvE}, (ss.map (·.name)).Nodup → b ∈ ss → c ∈ ss → b.name = c.name → b = c
  | x :: ss, b, c, nd, hb, hc, e => by
    rw [List.map_cons] at nd
    obtain ⟨n1, n2⟩ := List.nodup_cons.mp nd
    rcases List.mem_cons.mp hb with rfl | hb
    · rcases List.mem_cons.mp hc with rfl | hc
      · rfl
      · exact absurd (by rw [e]; exact List.mem_map.mpr ⟨_, hc, rfl⟩) n1
    · rcases List.mem_cons.mp hc with rfl | hc
      · exact absurd (by rw [← e]; exact List.mem_map.mpr ⟨_, ‹b ∈ ss›, rfl⟩) n1
      · exact name_uniq n2 ‹b ∈ ss› ‹c ∈ ss› e
section
/-! ### a schema's parts changed -/
theorem kd_names {kd : List (Key × V)} {zs : List Str} (h : kd.map (·.1) = zs.map Sum.inr) : kd.map (fun kv => kV kv.1) = zs.map V.str := by
  have : kd.map (fun kv => kV kv.1) = (kd.map (·.1)).map kV := by rw [List.map_map]; rfl
  rw [this, h, List.map_map]
  rfl
def upTs (ts : List (Str × Int)) (n : Str) (w : Int) : List (Str × Int) := ts.map fun b => if b.1 = n then (b.1, w) else b
theorem upTs_names (ts : List (Str × Int)) (n : Str) (w : Int) : (upTs ts n w).map (·.1) = ts.map (·.1) := by
  unfold upTs
  rw [List.map_map]
  refine List.map_congr_left fun b _ => ?_
  show (if b.1 = n then (b.1, w) else b).1 = b.1
  split <;> rfl
theorem upTs_put {ts : List (Str × Int)} {n : Str} {w : Int} (h : n ∈ ts.map (·.1)) : putK (tabK ts) (Sum.inr n) (.int w) = tabK (upTs ts n w) := by
  unfold putK
  have ha : ((tabK ts).any fun kv => decide (kv.1 = Sum.inr n)) = true := by
    obtain ⟨b, hb, e⟩ := List.mem_map.mp h
    exact List.any_eq_true.mpr ⟨_, List.mem_map.mpr ⟨b, hb, rfl⟩, decide_eq_true (by rw [e])⟩
  rw [if_pos ha]
  unfold tabK upTs
  rw [List.map_map, List.map_map]
  refine List.map_congr_left fun c _ => ?_
  show (if (Sum.inr c.1 : Key) = Sum.inr n then _ else _) = (fun b : Str × Int => ((Sum.inr b.1 : Key), V.int b.2)) (if c.1 = n then (c.1, w) else c)
  by_cases e : c.1 = n
  · rw [if_pos e, if_pos (by rw [e])]
  · rw [if_neg e, if_neg (fun z => e (Sum.inr.inj z))]
theorem upTs_len (ts : List (Str × Int)) (n : Str) (w : Int) : (upTs ts n w).length = ts.length := List.length_map ..
theorem upTs_mem {ts : List (Str × Int)} {n x : Str} {w v : Int} (h : (x, v) ∈ ts) (nd : (ts.map (·.1)).Nodup) {v0 : Int} (h0 : (n, v0) ∈ ts) (hw : v0 ≤ w) : ∃ v', (x, v') ∈ upTs ts n w ∧ v ≤ v' := by
  by_cases e : x = n
  · subst e
    have : v = v0 := by rw [← widthAt_mem nd h, ← widthAt_mem nd h0]
    refine ⟨w, List.mem_map.mpr ⟨_, h, by rw [if_pos rfl]⟩, by omega⟩
  · exact ⟨v, List.mem_map.mpr ⟨_, h, by rw [if_neg e]⟩, Int.le_refl _⟩
theorem Tabs.upd {ts : List (Str × Int)} {m : Nat} {wm : Int} {n : Str} {w : Int} (h : Tabs ts m wm) (h1 : 1 ≤ w) (h2 : w ≤ wm) : Tabs (upTs ts n w) m wm := ⟨by rw [upTs_names]; exact h.nm, fun b hb => by
  obtain ⟨c, hc, rfl⟩ := List.mem_map.mp hb
  show 1 ≤ (if c.1 = n then (c.1, w) else c).2 ∧ (if c.1 = n then (c.1, w) else c).2 ≤ wm
  split
  · exact ⟨h1, h2⟩
  · exact h.wd c hc⟩
theorem Keys.upTs {H : Hp} {ts : List (Str × Int)} {ks : List KeyE} {m : Nat} {wm : Int} {n : Str} {w v0 : Int} (hT : Tabs ts m wm) (h : Keys H ts ks) (h0 : (n, v0) ∈ ts) (hw : v0 ≤ w) : Keys H (upTs ts n w) ks :=
  ⟨h.nd, by rw [upTs_len]; exact h.le, h.at_, fun b hb => by
    obtain ⟨v, hv, hc, h1, h2⟩ := h.ok b hb
    obtain ⟨v', hv', hle⟩ := upTs_mem hv hT.nm.nd h0 hw
    exact ⟨v', hv', hc.up hle, h1, by omega⟩⟩
theorem SvOk.upTs {H : Hp} {ts : List (Str × Int)} {b : SvE} {m : Nat} {wm : Int} {n : Str} {w v0 : Int} (hT : Tabs ts m wm) (h : SvOk H ts b) (h0 : (n, v0) ∈ ts) (hw : v0 ≤ w) : SvOk H (upTs ts n w) b := by
  obtain ⟨v, hv, hc, hl⟩ := h.ok
  obtain ⟨v', hv', hle⟩ := upTs_mem hv hT.nm.nd h0 hw
  exact ⟨h.told, ⟨v', hv', hc.up hle, hl⟩, h.cap⟩
structure Ch3 (p t k v : Addr) (m n : Nat) (H0 H : Hp) (ts : List (Str × Int)) (ks : List KeyE) (ss : List SvE) : Prop where
  mm : m ≤ 26
  nn : n ≤ 26
  pool : PoolAt H p
  tb : DctAt H t (tabK ts)
  ky : DctAt H k (keyK ks)
  sv : DctAt H v (svK ss)
  hT : Tabs ts m 4
  hK : Keys H ts ks
  hS : ∀ b ∈ ss, SvOk H ts b
  nm : Nms (ss.map (·.name)) n
  oth : ∀ b o, b ≠ p → b ≠ t → b ≠ k → b ≠ v → H0 b = some o → H b = some o
theorem DctAt.ne {H : Hp} {t p : Addr} {kvs : List (Key × V)} (h : DctAt H t kvs) (hP : PoolAt H p) : t ≠ p := by
  obtain ⟨kd, e, _⟩ := h
  exact pool_ne hP e (by intro _ z; cases z)
theorem DctAt.chg {H H' : Hp} {t p : Addr} {kvs : List (Key × V)} (h : DctAt H t kvs) (hP : PoolAt H p) (c : Chg p H H') : DctAt H' t kvs := by
  have n := h.ne hP
  obtain ⟨kd, e, q⟩ := h
  exact ⟨kd, c.at n e, q⟩
theorem pool_ne' {H : Hp} {p b : Addr} (h : PoolAt H p) (e : H b = none) : b ≠ p := Chg.ne h e
theorem Ch3.chg {p t k v : Addr} {m n : Nat} {H0 H H' : Hp} {ts : List (Str × Int)} {ks : List KeyE} {ss : List SvE} (h : Ch3 p t k v m n H0 H ts ks ss) (c : Chg p H H') : Ch3 p t k v m n H0 H' ts ks ss :=
  ⟨h.mm, h.nn, c.1, h.tb.chg h.pool c, h.ky.chg h.pool c, h.sv.chg h.pool c, h.hT, h.hK.mono (chg_tup h.pool c), fun b hb => (h.hS b hb).mono (chg_tup h.pool c), h.nm, fun b o n1 n2 n3 n4 e => c.at n1 (h.oth b o n1 n2 n3 n4 e)⟩
theorem Ch3.same {p t k v : Addr} {m n : Nat} {H0 H H' : Hp} {ts : List (Str × Int)} {ks : List KeyE} {ss : List SvE} (h : Ch3 p t k v m n H0 H ts ks ss) (c : Same H H') : Ch3 p t k v m n H0 H' ts ks ss :=
  ⟨h.mm, h.nn, h.pool.same c, h.tb.same c, h.ky.same c, h.sv.same c, h.hT, h.hK.mono fun _ _ e => c _ _ e, fun b hb => (h.hS b hb).mono fun _ _ e => c _ _ e, h.nm, fun b o n1 n2 n3 n4 e => c _ _ (h.oth b o n1 n2 n3 n4 e)⟩
/-- a dict of the three is written -/
theorem DctAt.oth {H : Hp} {t b : Addr} {kvs : List (Key × V)} {o : HO} (h : DctAt H t kvs) (n : t ≠ b) : DctAt (upd H b o) t kvs := by
  obtain ⟨kd, e, q⟩ := h
  exact ⟨kd, by rw [upd_ne n]; exact e, q⟩
theorem DctAt.putD {H : Hp} {t : Addr} {kvs : List (Key × V)} {k : Key} {v : V} (h : DctAt H t kvs) : ∃ kd, H t = some (.dK kd) ∧ kd.length = kvs.length ∧ DctAt (upd H t (.dK (putK kd k v))) t (putK kvs k v) := by
  obtain ⟨kd, e, q⟩ := h
  exact ⟨kd, e, q.length_eq, _, upd_same, putK_perm q k v⟩
theorem DctAt.tup {H : Hp} {t : Addr} {kvs : List (Key × V)} (h : DctAt H t kvs) (o : HO) : ∀ b xs, H b = some (.tup xs) → upd H t o b = some (.tup xs) := by
  obtain ⟨kd, e, q⟩ := h
  exact upd_tup e (by intro _ z; cases z)
theorem DctAt.pool {H : Hp} {t p : Addr} {kvs : List (Key × V)} (h : DctAt H t kvs) (hP : PoolAt H p) (o : HO) : PoolAt (upd H t o) p := by
  have n := h.ne hP
  obtain ⟨p0, p1, p2, p3, r, e, c⟩ := hP
  exact ⟨p0, p1, p2, p3, r, by rw [upd_ne n.symm]; exact e, c⟩
theorem keyK_drop (ks : List KeyE) (n : Str) : dropK (keyK ks) (Sum.inr n) = keyK (ks.filter fun b => decide (b.1 ≠ n)) := by
  unfold dropK keyK
  rw [List.filter_map]
  congr 1
  refine List.filter_congr fun b _ => ?_
  show decide ((Sum.inr b.1 : Key) ≠ Sum.inr n) = decide (b.1 ≠ n)
  by_cases e : b.1 = n
  · rw [e]
    simp
  · have e' : (Sum.inr b.1 : Key) ≠ Sum.inr n := fun z => e (Sum.inr.inj z)
    rw [decide_eq_true e, decide_eq_true e']
theorem dropK_perm {κ : Type} [DecidableEq κ] {x y : List (κ × V)} (p : x.Perm y) (k : κ) : (dropK x k).Perm (dropK y k) := p.filter _
theorem Ch3.putT {p t k v : Addr} {m n : Nat} {H0 H : Hp} {ts : List (Str × Int)} {ks : List KeyE} {ss : List SvE} (h : Ch3 p t k v m n H0 H ts ks ss) (ntk : t ≠ k) (ntv : t ≠ v) {nm : Str} {w w' : Int} (hm : (nm, w) ∈ ts) (h1 : w ≤ w') (h2 : w' ≤ 4) :
    ∃ kd, H t = some (.dK kd) ∧ kd.length < sizeLine ∧ Ch3 p t k v m n H0 (upd H t (.dK (putK kd (Sum.inr nm) (.int w')))) (upTs ts nm w') ks ss := by
  have hw := h.hT.wd _ hm
  have hmem : nm ∈ ts.map (·.1) := List.mem_map.mpr ⟨_, hm, rfl⟩
  obtain ⟨kd, e, l, d⟩ := h.tb.putD (k := Sum.inr nm) (v := .int w')
  rw [upTs_put hmem] at d
  have tup := h.tb.tup (.dK (putK kd (Sum.inr nm) (.int w')))
  refine ⟨kd, e, ?_, h.mm, h.nn, h.tb.pool h.pool _, d, h.ky.oth ntk.symm, h.sv.oth ntv.symm, h.hT.upd (by have := hw.1; omega) h2, (h.hK.upTs h.hT hm h1).mono tup, fun b hb => ((h.hS b hb).upTs h.hT hm h1).mono tup, h.nm, fun b o n1 n2 n3 n4 e => ?_⟩
  · rw [l]
    unfold tabK
    rw [List.length_map, h.hT.len]
    have := h.hT.len
    have := h.mm
    exact small1000 (by omega)
  · rw [upd_ne n2]
    exact h.oth b o n1 n2 n3 n4 e
theorem Ch3.putK_ {p t k v : Addr} {m n : Nat} {H0 H : Hp} {ts : List (Str × Int)} {ks : List KeyE} {ss : List SvE} (h : Ch3 p t k v m n H0 H ts ks ss) (ntk : t ≠ k) (nkv : k ≠ v) {nm : Str} {w : Int} (hm : (nm, w) ∈ ts) (h1 : 1 < w) (hno : nm ∉ ks.map (·.1)) {x : Addr} (hx : H x = some (.tup [.int (w - 1)])) :
    ∃ kd, H k = some (.dK kd) ∧ kd.length < sizeLine ∧ Ch3 p t k v m n H0 (upd H k (.dK (putK kd (Sum.inr nm) (.ref x)))) ts (ks ++ [(nm, x, [w - 1])]) ss := by
  obtain ⟨kd, e, l, d⟩ := h.ky.putD (k := Sum.inr nm) (v := .ref x)
  have e1 : putK (keyK ks) (Sum.inr nm) (V.ref x) = keyK (ks ++ [(nm, x, [w - 1])]) := by
    unfold keyK
    rw [snoc_map]
    refine putK_new _ (valV_no ?_)
    have e := keys_key ks
    unfold keyK at e
    rw [e]
    exact inr_no hno
  rw [e1] at d
  have tup := h.ky.tup (.dK (putK kd (Sum.inr nm) (.ref x)))
  have hlen := h.hK.le
  have hlt := h.hT.len
  have hmm := h.mm
  have nd : ((ks ++ [(nm, x, [w - 1])]).map (·.1)).Nodup := by
    rw [snoc_map]
    exact List.nodup_append.mpr ⟨h.hK.nd, by simp, fun a ha b hb e => hno (by have hb' : b = nm := List.mem_singleton.mp hb; rw [← hb', ← e]; exact ha)⟩
  have hok : ∀ b ∈ ks ++ [(nm, x, [w - 1])], ∃ w', (b.1, w') ∈ ts ∧ Cols b.2.2 w' ∧ 1 ≤ b.2.2.length ∧ (b.2.2.length : Int) < w' := fun b hb => by
    rcases List.mem_append.mp hb with h' | h'
    · exact h.hK.ok b h'
    · rw [List.mem_singleton.mp h']
      refine ⟨w, hm, ⟨List.pairwise_singleton _ _, fun c hc => ?_⟩, Nat.le_refl 1, h1⟩
      rw [List.mem_singleton.mp hc]
      omega
  have le' : (ks ++ [(nm, x, [w - 1])]).length ≤ ts.length := by
    have sub := (nd_sub nd (ys := ts.map (·.1)) fun y hy => by
      obtain ⟨b, hb, rfl⟩ := List.mem_map.mp hy
      obtain ⟨w', hw', _⟩ := hok b hb
      exact List.mem_map.mpr ⟨_, hw', rfl⟩).1
    rw [List.length_map, List.length_map] at sub
    exact sub
  refine ⟨kd, e, ?_, h.mm, h.nn, h.ky.pool h.pool _, h.tb.oth ntk, d, h.sv.oth nkv.symm, h.hT, ⟨nd, le', fun b hb => ?_, hok⟩, fun b hb => (h.hS b hb).mono tup, h.nm, fun b o n1 n2 n3 n4 e => ?_⟩
  · rw [l]
    unfold keyK
    rw [List.length_map]
    exact small1000 (by omega)
  · rcases List.mem_append.mp hb with h' | h'
    · exact tup _ _ (h.hK.at_ b h')
    · rw [List.mem_singleton.mp h']
      exact tup _ _ hx
  · rw [upd_ne n3]
    exact h.oth b o n1 n2 n3 n4 e
theorem Ch3.dropK_ {p t k v : Addr} {m n : Nat} {H0 H : Hp} {ts : List (Str × Int)} {ks : List KeyE} {ss : List SvE} (h : Ch3 p t k v m n H0 H ts ks ss) (ntk : t ≠ k) (nkv : k ≠ v) {nm : Str} {b : KeyE} (hb : keyAt ks nm = some b) :
    ∃ kd, H k = some (.dK kd) ∧ valV kd (Sum.inr nm) = some (.ref b.2.1) ∧ Ch3 p t k v m n H0 (upd H k (.dK (dropK kd (Sum.inr nm)))) ts (ks.filter fun c => decide (c.1 ≠ nm)) ss := by
  obtain ⟨kd, e, q⟩ := h.ky
  have nd := key_nd h.hT h.hK
  have hv : valV kd (Sum.inr nm) = some (.ref b.2.1) := by
    rw [valV_perm q nd, keyAt_val, hb]
    rfl
  have tup := h.ky.tup (.dK (dropK kd (Sum.inr nm)))
  have sl : (ks.filter fun c => decide (c.1 ≠ nm)).Sublist ks := List.filter_sublist
  refine ⟨kd, e, hv, h.mm, h.nn, h.ky.pool h.pool _, h.tb.oth ntk, ⟨_, upd_same, ?_⟩, h.sv.oth nkv.symm, h.hT, ⟨h.hK.nd.sublist (sl.map _), Nat.le_trans sl.length_le h.hK.le, fun c hc => tup _ _ (h.hK.at_ c (sl.subset hc)), fun c hc => h.hK.ok c (sl.subset hc)⟩, fun b hb => (h.hS b hb).mono tup, h.nm, fun b o n1 n2 n3 n4 e => ?_⟩
  · rw [← keyK_drop]
    exact dropK_perm q _
  · rw [upd_ne n3]
    exact h.oth b o n1 n2 n3 n4 e
theorem Ch3.putS {p t k v : Addr} {m n : Nat} {H0 H : Hp} {ts : List (Str × Int)} {ks : List KeyE} {ss : List SvE} (h : Ch3 p t k v m n H0 H ts ks ss) (ntv : t ≠ v) (nkv : k ≠ v) {b : SvE} (hb : b ∈ ss) {x : Addr} (hx : H x = some (.tup [.str b.tab, .ref b.ga, .non])) :
    ∃ kd, H v = some (.dK kd) ∧ kd.length < sizeLine ∧ ∃ ss', Ch3 p t k v m n H0 (upd H v (.dK (putK kd (Sum.inr b.name) (.ref x)))) ts ks ss' := by
  have hmem : b.name ∈ ss.map (·.name) := List.mem_map.mpr ⟨b, hb, rfl⟩
  obtain ⟨kd, e, l, d⟩ := h.sv.putD (k := Sum.inr b.name) (v := .ref x)
  rw [putK_map x hmem] at d
  have tup := h.sv.tup (.dK (putK kd (Sum.inr b.name) (.ref x)))
  have hnn := h.nn
  refine ⟨kd, e, ?_, uncE ss b.name x, h.mm, h.nn, h.sv.pool h.pool _, h.tb.oth ntv, h.ky.oth nkv, d, h.hT, h.hK.mono tup, fun c hc => ?_, by rw [uncE_names]; exact h.nm, fun b o n1 n2 n3 n4 e => ?_⟩
  · rw [l]
    unfold svK
    have := h.nm.len
    rw [List.length_map] at this
    rw [List.length_map]
    exact small1000 (by omega)
  · obtain ⟨c0, hc0, rfl⟩ := List.mem_map.mp hc
    have old := (h.hS c0 hc0).mono tup
    show SvOk _ ts (if c0.name = b.name then { c0 with at_ := x, cap := none } else c0)
    by_cases e : c0.name = b.name
    · rw [if_pos e]
      have ebb := name_uniq h.nm.nd hc0 hb e
      subst ebb
      exact ⟨⟨tup _ _ hx, old.told.cols⟩, old.ok, fun z hz => by cases hz⟩
    · rw [if_neg e]
      exact old
  · rw [upd_ne n4]
    exact h.oth b o n1 n2 n3 n4 e
end
/-! ### a Schema made of dicts that are right -/
theorem SchO.chg {C p dx d1 d2 d3 a : Addr} {H H' : Hp} {ts : List (Str × Int)} {ks : List KeyE} {ss : List SvE} {m n : Nat} (h : SchO C p dx d1 d2 d3 H ts ks ss m n) (hP : PoolAt H a) (c : Chg a H H') : SchO C p dx d1 d2 d3 H' ts ks ss m n :=
  ⟨c.at (pool_ne hP h.ob (by intro _ z; cases z)) h.ob, h.tb.chg hP c, h.ky.chg hP c, h.sv.chg hP c, h.hT, h.hK.mono (chg_tup hP c), h.hS.mono (chg_tup hP c), h.m5, h.n8⟩
theorem SchAt.chg {C p a : Addr} {H H' : Hp} {ts : List (Str × Int)} {ks : List KeyE} {ss : List SvE} {m n : Nat} (h : SchAt C p H ts ks ss m n) (hP : PoolAt H a) (c : Chg a H H') : SchAt C p H' ts ks ss m n := by
  obtain ⟨dx, d1, d2, d3, o⟩ := h
  exact ⟨dx, d1, d2, d3, o.chg hP c⟩
theorem mk_schema {C t k v : Addr} {H : Hp} {ts : List (Str × Int)} {ks : List KeyE} {ss : List SvE} {m n : Nat} {Q' : Hp → Prop} {E : XK} {x dx : Addr} (ht : DctAt H t (tabK ts)) (hk : DctAt H k (keyK ks)) (hv : DctAt H v (svK ss)) (hT : Tabs ts m 4) (hK : Keys H ts ks) (hS : Svcs H ts ks ss n) (m1 : 1 ≤ m) (m5 : m ≤ 5) (n1 : 1 ≤ n) (n8 : n ≤ 8)
    (fx : H x = none) (fdx : H dx = none) (ndx : dx ≠ x) (q : ∀ H', SchAt C x H' ts ks ss m n → Same H H' → Q' H') :
    spSInit C (.ref x :: ([.ref t, .ref k, .ref v] ++ [])) (upd (upd H dx (.own x)) x (.ins C dx [])) (fun u H2 => u = .non ∧ Q' H2) E := by
  have s1 := same_upd (o := .own x) fdx
  have f1 : upd H dx (.own x) x = none := by rw [upd_ne ndx.symm]; exact fx
  have s := s1.trans (same_upd (o := .ins C dx []) f1)
  exact ⟨x, dx, t, k, v, ts, ks, ss, m, n, rfl, upd_same, ht.same s, hk.same s, hv.same s, hT, hK.mono fun _ _ e => s _ _ e, hS.mono fun _ _ e => s _ _ e, m1, m5, n1, n8, fun Hz e1 e2 e3 Oz _ _ _ keep => ⟨rfl, q Hz ⟨dx, e1, e2, e3, Oz⟩ fun b u e => keep b u (ne_of_none e fx) (s _ _ e)⟩⟩
/-! ### values: whole numbers of 30 digits at most, words -/
def KVal : Key → Prop
  | .inl i => -(10 ^ 30 - 1) ≤ i ∧ i ≤ 10 ^ 30 - 1
  | .inr s => Wd s
theorem KVal.ok {k : Key} (h : KVal k) : KOk k := by
  cases k with
  | inl i => exact trivial
  | inr s => exact wd_strOk h
section
variable {P : Program} {w : World} {K : PySem.W.Frag} {mg : Str → Option Value} {base : Heap} {a : Nat → Addr} {d : Nat → FuncData}
def spValue : Sp := fun vs H Q _ => ∃ p : Addr, vs = [.ref p] ∧ PoolAt H p ∧ ∀ (k : Key) (H' : Hp), KVal k → Chg p H H' → Q (kV k) H'
def spPalette : Sp := fun vs H Q _ => ∃ (p : Addr) (m : Nat), vs = [.ref p, .int (m : Int)] ∧ PoolAt H p ∧ m ≤ 100 ∧ ∀ (l : Addr) (ks : List Key) (H' : Hp), H l = none → H' l = some (.lst (ks.map kV)) → ks.length = m → (∀ k ∈ ks, KVal k) → Chg p H H' → Q (.ref l) H'
end
def projR (cs : List Int) (r : RowK) : RowK := cs.map fun c => r.getD c.toNat (.inl 0)
def lets (rs : List RowK) (mk : Option (List Int)) (r : RowK) : Bool := rs.all fun t => !decide (t = r) && (match mk with
  | none => true
  | some cs => !decide (projR cs t = projR cs r))
theorem keys_shapedL {r : RowK} (h : ∀ k ∈ r, KOk k) : SeqAt.shaped (.list (r.map keyD)) = true := by
  obtain ⟨h1, h2⟩ := lay_keys h
  show ((PyData.list (r.map keyD)).canLay0 && decide ((PyData.list (r.map keyD)).depth ≤ 64)) = true
  simp only [PyData.canLay0, PyData.depth, h1, h2]
  decide
theorem eqv_keysL (a b : RowK) : PyData.eqv (.list (a.map keyD)) (.list (b.map keyD)) = decide (a = b) := by
  simp only [PyData.eqv]
  exact eqvAll_keys a b
theorem projR_ok {cs : List Int} {r : RowK} {w : Int} (h : ∀ k ∈ r, KOk k) (hc : ∀ c ∈ cs, 0 ≤ c ∧ c < w) (hw : (r.length : Int) = w) : ∀ k ∈ projR cs r, KOk k := fun k hk => by
  obtain ⟨c, hc', rfl⟩ := List.mem_map.mp hk
  have := hc c hc'
  rw [List.getD_eq_getElem?_getD, List.getElem?_eq_getElem (by omega)]
  exact h _ (List.getElem_mem _)
theorem getD_at {r : RowK} {c : Int} (h0 : 0 ≤ c) (h : c < r.length) : atI (r.map kV) c = some (kV (r.getD c.toNat (.inl 0))) := by
  refine at_g (j := c.toNat) (by omega) ?_
  rw [List.getElem?_map, List.getD_eq_getElem?_getD, List.getElem?_eq_getElem (by omega)]
  rfl
theorem projR_snoc {cs : List Int} {r : RowK} {j : Nat} {z : Int} (h : cs[j]? = some z) : projR (cs.take (j + 1)) r = projR (cs.take j) r ++ [r.getD z.toNat (.inl 0)] := by
  unfold projR
  rw [List.take_add_one, h, List.map_append]
  rfl
theorem ifT {A B : Prop} (h : A) : if true = true then A else B := by
  rw [if_pos rfl]
  exact h
theorem ifF {A B : Prop} (h : B) : if false = true then A else B := by
  rw [if_neg (by decide)]
  exact h
def markV : Option (List Int) → Addr → V
  | none, _ => .non
  | some _, c => .ref c
section
variable {P : Program} {w : World} {K : PySem.W.Frag} {mg : Str → Option Value} {base : Heap} {a : Nat → Addr} {d : Nat → FuncData}
def spLets : Sp := fun vs H Q _ => ∃ (l c p : Addr) (L : List (Addr × RowK)) (mk : Option (List Int)) (r : RowK), vs = [.ref l, markV mk c, .ref p] ∧ H l = some (.lst (L.map fun b => V.ref b.1)) ∧ RowsAt H L ∧ RowAt H p r ∧ (∀ cs, mk = some cs → H c = some (.tup (cs.map V.int)) ∧ (∀ x ∈ cs, 0 ≤ x ∧ x < (r.length : Int)) ∧ cs.length ≤ 100) ∧
  (∀ b ∈ L, b.2.length = r.length ∧ ∀ k ∈ b.2, KOk k) ∧ (∀ k ∈ r, KOk k) ∧ ∀ H', Same H H' → Q (.bl (lets (L.map (·.2)) mk r)) H'
end
/-! ### the law's own order of rows -/
def rankD : Key → PyData
  | .inl i => .tuple [.int 0, .int i, .str ""]
  | .inr s => .tuple [.int 1, .int 0, .str s]
def rankL (r : RowK) : PyData := .list (r.map rankD)
section
open PySem.SeqAt PySem.W
theorem alike_rank (k l : Key) : alike (rankD k) (rankD l) = true := by
  cases k <;> cases l <;> simp [rankD, alike, alikeAll]
theorem alike_ranks : ∀ a b : RowK, alikeAll (a.map rankD) (b.map rankD) = true
  | [], _ => by cases ‹RowK› <;> simp [alikeAll]
  | _ :: _, [] => by simp [alikeAll]
  | x :: a, y :: b => by
    simp only [List.map_cons, alikeAll, alike_rank, alike_ranks a b, Bool.and_self]
theorem eqv_rank (k l : Key) : PyData.eqv (rankD k) (rankD l) = decide (k = l) := by
  have h := eqv_key k l
  cases k <;> cases l <;> simp [rankD, keyD, PyData.eqv, PyData.eqvAll] at h ⊢ <;> exact h
theorem lt_rank {k l : Key} (h : k ≠ l) : dataLt (rankD k) (rankD l) = PyProof.Rows.itemLt (item k) (item l) := by
  cases k <;> cases l
  · rename_i i j
    have h' : i ≠ j := fun e => h (by rw [e])
    show PyProof.Rows.lexLt PyProof.Rows.itemOrd (keyToksAll _) (keyToksAll _) = _
    rw [dataLt_cons rfl, if_pos (by simp [PyData.eqv]), dataLt_cons rfl, if_neg (by simp [PyData.eqv, h']), dataLt_int]
    rfl
  · rename_i i j
    show PyProof.Rows.lexLt PyProof.Rows.itemOrd (keyToksAll _) (keyToksAll _) = _
    rw [dataLt_cons rfl, if_neg (by simp [PyData.eqv]), dataLt_int]
    rfl
  · rename_i i j
    show PyProof.Rows.lexLt PyProof.Rows.itemOrd (keyToksAll _) (keyToksAll _) = _
    rw [dataLt_cons rfl, if_neg (by simp [PyData.eqv]), dataLt_int]
    rfl
  · rename_i i j
    have h' : i ≠ j := fun e => h (by rw [e])
    have h2 : PyData.eqv (.str i) (.str j) = false := by
      have := eqv_key (.inr i) (.inr j)
      rw [decide_eq_false h] at this
      exact this
    show PyProof.Rows.lexLt PyProof.Rows.itemOrd (keyToksAll _) (keyToksAll _) = _
    rw [dataLt_cons rfl, if_pos (by simp [PyData.eqv]), dataLt_cons rfl, if_pos (by simp [PyData.eqv]), dataLt_cons rfl, if_neg (by rw [h2]; decide), dataLt_str]
    simp [item, PyProof.Rows.itemLt, PyProof.Rows.strKind]
theorem lt_ranks : ∀ a b : RowK, PyProof.Rows.lexLt PyProof.Rows.itemOrd (keyToksAll (a.map rankD)) (keyToksAll (b.map rankD)) = My.rowLt a b
  | [], [] => by
    show PyProof.Rows.lexLt PyProof.Rows.itemOrd (keyToksAll []) (keyToksAll []) = _
    rw [lex_irrefl, rowLt_irrefl]
  | [], _ :: _ => by
    show PyProof.Rows.lexLt PyProof.Rows.itemOrd [.inl 0] (.inl 1 :: _) = _
    rw [lex_diff (by simp)]
    rfl
  | _ :: _, [] => by
    show PyProof.Rows.lexLt PyProof.Rows.itemOrd (.inl 1 :: _) [.inl 0] = _
    rw [lex_diff (by simp)]
    rfl
  | x :: a, y :: b => by
    rw [List.map_cons, List.map_cons, dataLt_cons (alike_rank x y), eqv_rank, rowLt_cons, lt_ranks a b]
    by_cases h : x = y
    · rw [decide_eq_true h, if_pos rfl, if_pos h]
    · rw [decide_eq_false h, if_neg (by decide), if_neg h, lt_rank h]
theorem lay_rank {k : Key} (h : KOk k) : (rankD k).canLay0 = true ∧ (rankD k).depth = 1 := by
  cases k with
  | inl i => simp [rankD, PyData.canLay0, PyData.canLayAll0, PyData.depth, PyData.depthAll]; decide +kernel
  | inr s =>
    have h' : PyData.strOk s = true := h
    simp [rankD, PyData.canLay0, PyData.canLayAll0, PyData.depth, PyData.depthAll, h']
theorem lay_ranks : ∀ {r : RowK}, (∀ k ∈ r, KOk k) → PyData.canLayAll0 (r.map rankD) = true ∧ PyData.depthAll (r.map rankD) ≤ 1
  | [], _ => by simp [PyData.canLayAll0, PyData.depthAll]
  | k :: r, h => by
    obtain ⟨h1, h2⟩ := lay_ranks (r := r) fun x hx => h x (List.mem_cons_of_mem _ hx)
    obtain ⟨h3, h4⟩ := lay_rank (h k List.mem_cons_self)
    simp only [List.map_cons, PyData.canLayAll0, PyData.depthAll, h1, h3, h4, Bool.and_self, true_and]
    omega
/-- such keys can be sorted -/
theorem keys_ranks {rs : List RowK} (h : ∀ r ∈ rs, ∀ k ∈ r, KOk k) : SK.KeysG (rs.map rankL) keyToks := by
  refine SK.keysG_alike (fun d hd => ?_) (fun d hd d' hd' => ?_) (.inr fun d hd => ?_)
  · obtain ⟨r, hr, rfl⟩ := List.mem_map.mp hd
    show (PyData.list (r.map rankD)).canLay0 = true
    simp only [PyData.canLay0, (lay_ranks (h r hr)).1]
  · obtain ⟨r, _, rfl⟩ := List.mem_map.mp hd
    obtain ⟨r', _, rfl⟩ := List.mem_map.mp hd'
    exact alike_ranks r r'
  · obtain ⟨r, _, rfl⟩ := List.mem_map.mp hd
    exact ⟨(by intro z; cases z), fun xs z => by cases z⟩
theorem byKey_ranks (L : List (Addr × RowK)) (hn : (L.map (·.2)).Nodup) : ∃ L' : List (Addr × RowK), SK.byKey keyToks (L.map fun b => V.ref b.1) (L.map fun b => rankL b.2) = L'.map (fun b => V.ref b.1) ∧ L'.Perm L ∧ L'.Pairwise fun a b => My.rowLt a.2 b.2 = true := by
  obtain ⟨L', e1, e2, e3⟩ := byKey_rows L hn
  refine ⟨L', ?_, e2, e3⟩
  rw [← e1]
  unfold SK.byKey
  rw [List.zip_map', List.zip_map', ← List.map_mergeSort (r := fun a b : Addr × RowK => !My.rowLt b.2 a.2) (f := fun b : Addr × RowK => ((V.ref b.1, rankL b.2) : V × PyData)), ← List.map_mergeSort (r := fun a b : Addr × RowK => !My.rowLt b.2 a.2) (f := fun b : Addr × RowK => ((V.ref b.1, rowD b.2) : V × PyData)), List.map_map, List.map_map]
  · rfl
  · intro a _ b _
    show _ = (!(PyProof.Rows.listOrd PyProof.Rows.itemOrd).blt (tokD (rowD b.2)) (tokD (rowD a.2)))
    rw [tokD_row, tokD_row]
    rfl
  · intro a _ b _
    show _ = (!PyProof.Rows.lexLt PyProof.Rows.itemOrd (keyToksAll (b.2.map rankD)) (keyToksAll (a.2.map rankD)))
    rw [lt_ranks]
end
def kRank : Key → List V
  | .inl i => [.int 0, .int i, .str ""]
  | .inr s => [.int 1, .int 0, .str s]
theorem dp_rank {K : PySem.W.Frag} {H : Hp} {p : Addr} {k : Key} (h : H p = some (.tup (kRank k))) : Dp K H (.ref p) (rankD k) := by
  cases k with
  | inl i => exact .tup (.of h) (.cons (.int 0) (.cons (.int i) (.cons (.str "") .nil)))
  | inr s => exact .tup (.of h) (.cons (.int 1) (.cons (.int 0) (.cons (.str s) .nil)))
theorem dp_ranks {K : PySem.W.Frag} {H : Hp} : ∀ {ps : List Addr} {r : RowK}, Paired (fun p k => H p = some (.tup (kRank k))) ps r → DpAll K H (ps.map V.ref) (r.map rankD)
  | _, _, .nil => .nil
  | _, _, .cons h t => .cons (dp_rank h) (dp_ranks t)
section
variable {P : Program} {w : World} {K : PySem.W.Frag} {mg : Str → Option Value} {base : Heap} {a : Nat → Addr} {d : Nat → FuncData}
def spRank : Sp := fun vs H Q _ => ∃ (p : Addr) (r : RowK), vs = [.ref p] ∧ RowAt H p r ∧ r.length ≤ 100 ∧ ∀ (K : PySem.W.Frag) (v : V) (H' : Hp), (∀ K : PySem.W.Frag, Dp K H' v (rankL r)) → Same H H' → Q v H'
theorem ok_rank (T : Txt K mg a d) : FnOk P w K mg base CX0 1 (a 45) (d 45) ["_law_row"] spRank := by
  refine T.F45.ok sc__law_rank (fun vs H Q E h => ?_) (fun cdv A outer s H vs Q E hr h => ?_)
  · obtain ⟨p, r, rfl, _⟩ := h
    rfl
  · obtain ⟨p, r, rfl, hp, hl, q⟩ := h
    refine ⟨_, (pss_one (ps_ret (pe_lc (own := [("_law_part", 1)]) rfl sc__law_rank.nd (pi_tup (pv 0)) (blkOk_by (N := ["_law_row", "_law_part"]) (sc := defScope s__law_rank) (by decide +kernel)) (fun _ _ _ _ _ => pg_name (i := 1) sc__law_rank.nd rfl (.inl rfl)) (fun _ _ _ _ _ => pts_nil) (fun _ _ _ _ _ => (pe_ifExp (pt_val (pe_callB (id := "isinstance") (r := rIsi K)  call_isi (by rfl) T.z_isinstance (by decide +kernel) (pa_cons (pv 1) (pa_cons (pe_bltn (v := .ty "str") (by rfl) T.z_str (by decide +kernel) rfl) pa_nil)))) (pe_tup (pa_cons pe_int (pa_cons pe_int (pa_cons (pv 1) pa_nil)))) (pe_tup (pa_cons pe_int (pa_cons (pv 1) (pa_cons pe_str pa_nil))))))))), ?_⟩
    refine ⟨_, rfl, p, rfl, ⟨_, .of hp⟩, fun D hD => ?_⟩
    refine lc_tup (K := K) (a := p) (xs := r.map kV) (fun i H' => ∃ ps : List Addr, H' D = some (.lst (ps.map V.ref)) ∧ Same H H' ∧ Paired (fun p k => H' p = some (.tup (kRank k))) ps (r.take i)) ⟨[], upd_same, same_upd hD, by rw [List.take_zero]; exact .nil⟩ (fun i H' _ hp' => ?_) (fun i x H' hx hp' => ?_) (fun H' hp' => ?_)
    · obtain ⟨ps, _, sm, _⟩ := hp'
      exact .of (sm _ _ hp)
    · obtain ⟨ps, e1, sm, e2⟩ := hp'
      obtain ⟨k, hk, rfl⟩ := map_at hx
      have li : i < r.length := (List.getElem?_eq_some_iff.mp hk).1
      have lp : ps.length = (r.take i).length := Paired.length e2
      rw [List.length_take] at lp
      have fin : ∀ c, H' c = none → ∃ acc, (upd H' c (.tup (kRank k))) D = some (.lst acc) ∧ acc.length < sizeLine ∧ ∃ ps : List Addr, (upd (upd H' c (.tup (kRank k))) D (.lst (acc ++ [.ref c]))) D = some (.lst (ps.map V.ref)) ∧ Same H (upd (upd H' c (.tup (kRank k))) D (.lst (acc ++ [.ref c]))) ∧ Paired (fun p k' => (upd (upd H' c (.tup (kRank k))) D (.lst (acc ++ [.ref c]))) p = some (.tup (kRank k'))) ps (r.take (i + 1)) := fun c hc => by
        refine ⟨ps.map V.ref, (same_upd hc) D _ e1, ?_, ps ++ [c], ?_, ?_, ?_⟩
        · rw [List.length_map]
          exact small1000 (by omega)
        · rw [List.map_append]
          exact upd_same
        · exact fun b o e => by
            rw [upd_ne (ne_of_none e hD)]
            exact same_upd hc _ _ (sm b o e)
        · rw [List.take_add_one, hk]
          have cD : c ≠ D := fun z => by
            rw [z, e1] at hc
            cases hc
          have old : ∀ b xs, H' b = some (.tup xs) → (upd (upd H' c (.tup (kRank k))) D (.lst (ps.map V.ref ++ [.ref c]))) b = some (.tup xs) := fun b xs e => by
            rw [upd_ne (ne_of e e1 (by intro z; cases z)), upd_ne (ne_of_none e hc)]
            exact e
          refine paired_snoc (L2.Paired.mapP e2 fun _ _ e => old _ _ e) ?_
          rw [upd_ne cD]
          exact upd_same
      refine ⟨rfl, ?_⟩
      cases k with
      | inl j => exact ⟨_, rfl, _, _, _, _, _, rfl, .ty _, .base (.int _), kit_ty kb_int_str, _, rfl, ⟨_, rfl, by show 3 ≤ sizeLine; decide, fun c hc => fin c hc⟩⟩
      | inr s => exact ⟨_, rfl, _, _, _, _, _, rfl, .ty _, .base (.str _), kit_ty kb_str_str, _, rfl, ⟨_, rfl, by show 3 ≤ sizeLine; decide, fun c hc => fin c hc⟩⟩
    · obtain ⟨ps, e1, sm, e2⟩ := hp'
      rw [List.length_map, List.take_length] at e2
      exact q K _ _ (fun K => .lst (.of e1) (dp_ranks e2)) sm
end
section
variable {P : Program} {w : World} {K : PySem.W.Frag} {mg : Str → Option Value} {base : Heap} {a : Nat → Addr} {d : Nat → FuncData}
def spLSorted : Sp := fun vs H Q _ => ∃ (l : Addr) (L : List (Addr × RowK)), vs = [.ref l] ∧ H l = some (.lst (L.map fun b => V.ref b.1)) ∧ RowsAt H L ∧ (∀ b ∈ L, (∀ k ∈ b.2, KOk k) ∧ b.2.length ≤ 100) ∧ L.length ≤ 10000 ∧
  ∀ (q : Addr) (H' : Hp) (L' : List (Addr × RowK)), H q = none → Same H H' → H' q = some (.lst (L'.map fun b => V.ref b.1)) → RowsAt H' L' → SortedRows L' (L.map (·.2)) → Q (.ref q) H'
theorem ok_lsorted (T : Txt K mg a d) : FnOk P w K mg base CX0 4 (a 46) (d 46) ["_law_rows"] spLSorted := by
  have G45 : FnOk P w K mg base CX0 1 (a 45) (d 45) ["_law_row"] spRank := ok_rank T
  refine T.F46.ok sc__law_sorted (fun vs H Q E h => ?_) (fun cdv A outer s H vs Q E hr h => ?_)
  · obtain ⟨l, L, rfl, _⟩ := h
    rfl
  · obtain ⟨l, L, rfl, hl, hR, hok, hlen, q⟩ := h
    refine ⟨_, (pss_cons (ps_set (i := 1) sc__law_sorted.nd rfl (.inl rfl) pe_dnewT)
  (pss_cons (ps_for PassesOwn.never rfl (pi_list (pv 0)) (pg_name (i := 2) sc__law_sorted.nd rfl (.inl rfl))
    (pss_one (ps_dput (hu_of hr) (pv 1) (pv 2) pe_bl rfl)))
  (pss_one (ps_ret (pe_callBK (SK.cr_sortF G45 (hr.mono (by decide)) T.b45 rfl) (by rfl) T.z_sorted (by decide +kernel) (pa_cons (pe_callTy (call_list_dT rfl) (by rfl) T.z_list (by decide +kernel) (pa_cons (pv 1) pa_nil)) pa_nil) (pk_cons (pe_glob (v := .ref (a 45)) (by rfl) T.g45 rfl) pk_nil)))))), ?_⟩
    refine fun D hD => ?_
    have sD := same_upd (o := .dT []) hD
    refine ⟨_, rfl, l, rfl, ⟨_, .of (sD _ _ hl)⟩, for_list (K := K) (a := l) (xs := L.map fun b => V.ref b.1) (fun i σ H' => ∃ y2 : Option V, σ = [some (.ref l), some (.ref D), y2] ∧ H' D = some (.dT ((uniq ((L.take i).map (·.2))).map fun k => (k, V.bl true))) ∧ Same H H') ⟨none, rfl, upd_same, sD⟩ (fun i σ H' _ hp => ?_) (fun i y σ H' hy hp => ?_) (fun σ H' hp => ?_)⟩
    · obtain ⟨y2, rfl, _, s⟩ := hp
      exact .of (s _ _ hl)
    · obtain ⟨y2, rfl, e1, s⟩ := hp
      obtain ⟨b, hb, rfl⟩ := map_at hy
      have li : i < L.length := (List.getElem?_eq_some_iff.mp hb).1
      have hbm : b ∈ L := List.mem_of_getElem? hb
      refine ⟨_, rfl, _, rfl, D, _, rfl, DPut.t (k := b.2) e1 (s _ _ (hR b hbm)) ?_, _, rfl, ?_, fun c o e => ?_⟩
      · rw [List.length_map]
        have h1 := uniq_len ((L.take i).map (·.2))
        rw [List.length_map, List.length_take] at h1
        exact Nat.lt_of_le_of_lt (by omega : _ ≤ 10000) (by decide)
      · rw [putK_uniq, map_take hb, uniq_snoc]
        exact upd_same
      · rw [upd_ne (ne_of_none e hD)]
        exact s c o e
    · obtain ⟨y2, rfl, e1, sm⟩ := hp
      rw [List.length_map, List.take_length] at e1
      refine ⟨_, rfl, D, _, rfl, .inl e1, fun p bs hp hk => ?_⟩
      obtain ⟨L0, b1, b2, b3⟩ := keys_zip hk
      obtain ⟨nd, mem⟩ := uniq_all (L.map (·.2))
      have sp := same_upd (o := .lst (bs.map V.ref)) hp
      have hok0 : ∀ b ∈ L0, (∀ k ∈ b.2, KOk k) ∧ b.2.length ≤ 100 := fun b hb => by
        have h1 : b.2 ∈ L.map (·.2) := (mem _).mp (by rw [← b2]; exact List.mem_map.mpr ⟨b, hb, rfl⟩)
        obtain ⟨c, hc, e⟩ := List.mem_map.mp h1
        rw [← e]
        exact hok c hc
      obtain ⟨L', r1, r2, r3⟩ := byKey_ranks L0 (by rw [b2]; exact nd)
      have ebs : bs.map V.ref = L0.map fun b => V.ref b.1 := by rw [← b1, List.map_map]; rfl
      refine ⟨p, L0.map (fun b => V.ref b.1), L0.map (fun b => rankL b.2), PySem.W.keyToks, rfl, rfl, .of (by rw [← ebs]; exact upd_same), by rw [List.length_map, List.length_map], ?_, fun d hd => ?_, fun i x k hx hk H2 s2 => ?_, fun q' H2 nq s2 e2 => ?_⟩
      · have h1 := keys_ranks (rs := L0.map (·.2)) fun r hr k hkr => by
          obtain ⟨b, hb, rfl⟩ := List.mem_map.mp hr
          exact (hok0 b hb).1 k hkr
        rw [List.map_map] at h1
        exact h1
      · obtain ⟨b, hb, rfl⟩ := List.mem_map.mp hd
        have := (lay_ranks (hok0 b hb).1).2
        show PyData.depthAll (b.2.map rankD) + 1 ≤ 60
        omega
      · obtain ⟨b, hb, rfl⟩ := map_at hx
        obtain ⟨b', hb', rfl⟩ := map_at hk
        obtain rfl : b = b' := Option.some.inj (hb.symm.trans hb')
        have hbm : b ∈ L0 := List.mem_of_getElem? hb
        exact ⟨b.1, b.2, rfl, s2 _ _ (sp _ _ (b3 b hbm)), (hok0 b hbm).2, fun K' v H3 dp s3 => ⟨dp K, s3⟩⟩
      · rw [r1] at e2
        refine q q' H2 L' (sm.free (sp.free nq)) ((sm.trans sp).trans s2) e2 (fun b hb => s2 _ _ (sp _ _ (b3 b (r2.mem_iff.mp hb)))) ⟨fun r => ?_, r3, ?_⟩
        · rw [(r2.map _).mem_iff, b2]
          exact mem r
        · rw [r2.length_eq, ← List.length_map (f := (·.2)), b2]
          exact uniq_len _
end
/-! ### the rows that a law draws -/
theorem Chg.same4' {a : Addr} {H H1 H2 : Hp} (x : Chg a H H1) (s : Same H1 H2) : Chg a H H2 := ⟨x.1.same s, fun b o n e => s _ _ (x.2 b o n e)⟩
structure RwE where
  name : Str
  at_ : Addr
  rows : List (Addr × RowK)
def rwK (es : List RwE) : List (Key × V) := es.map fun b => (Sum.inr b.name, V.ref b.at_)
theorem keys_rw (es : List RwE) : (rwK es).map (·.1) = (es.map (·.name)).map Sum.inr := by
  unfold rwK
  rw [List.map_map, List.map_map]
  rfl
def markOf (ks : List KeyE) (n : Str) : Option (List Int) := (keyAt ks n).map (·.2.2)
def markA (ks : List KeyE) (n : Str) : Addr := ((keyAt ks n).map (·.2.1)).getD 0
theorem mark_val (ks : List KeyE) (n : Str) : (valV (keyK ks) (Sum.inr n)).getD .non = markV (markOf ks n) (markA ks n) := by
  rw [keyAt_val]
  unfold markOf markA
  cases keyAt ks n <;> rfl
theorem mark_at {H : Hp} {ts : List (Str × Int)} {ks : List KeyE} {n : Str} {w : Int} (hK : Keys H ts ks) (nd : (ts.map (·.1)).Nodup) (hm : (n, w) ∈ ts) {cs : List Int} (h : markOf ks n = some cs) : H (markA ks n) = some (.tup (cs.map V.int)) ∧ (∀ x ∈ cs, 0 ≤ x ∧ x < w) ∧ 1 ≤ cs.length ∧ (cs.length : Int) < w := by
  unfold markOf at h
  unfold markA
  cases e : keyAt ks n with
  | none =>
    rw [e] at h
    cases h
  | some b =>
    rw [e] at h
    cases h
    obtain ⟨bm, bn⟩ := keyAt_mem e
    obtain ⟨w', hw, hc, h1, h2⟩ := hK.ok b bm
    rw [bn] at hw
    have : w' = w := by rw [← widthAt_mem nd hw, ← widthAt_mem nd hm]
    subst this
    exact ⟨hK.at_ b bm, hc.2, h1, h2⟩
structure RowsOk (w : Int) (mk : Option (List Int)) (rs : List RowK) : Prop where
  wid : ∀ r ∈ rs, (r.length : Int) = w ∧ ∀ k ∈ r, KVal k
  apart : rs.Pairwise fun t r => t ≠ r ∧ ∀ cs, mk = some cs → projR cs t ≠ projR cs r
theorem RowsOk.nil (w : Int) (mk : Option (List Int)) : RowsOk w mk [] := ⟨fun r hr => (by cases hr), .nil⟩
theorem RowsOk.snoc {w : Int} {mk : Option (List Int)} {rs : List RowK} {r : RowK} (h : RowsOk w mk rs) (hr : (r.length : Int) = w) (hk : ∀ k ∈ r, KVal k) (hl : lets rs mk r = true) : RowsOk w mk (rs ++ [r]) := by
  refine ⟨fun x hx => ?_, List.pairwise_append.mpr ⟨h.apart, List.pairwise_singleton _ _, fun x hx y hy => ?_⟩⟩
  · rcases List.mem_append.mp hx with hx | hx
    · exact h.wid x hx
    · rw [List.mem_singleton.mp hx]
      exact ⟨hr, hk⟩
  · rw [List.mem_singleton.mp hy]
    unfold lets at hl
    have := List.all_eq_true.mp hl x hx
    rw [Bool.and_eq_true] at this
    refine ⟨fun e => ?_, fun cs e => ?_⟩
    · rw [decide_eq_true e] at this
      cases this.1
    · subst e
      have h2 := this.2
      intro z
      simp [z] at h2
structure RwAt (H : Hp) (b : RwE) : Prop where
  lst : H b.at_ = some (.lst (b.rows.map fun x => V.ref x.1))
  rows : RowsAt H b.rows
theorem RwAt.same {H H' : Hp} {b : RwE} (h : RwAt H b) (s : Same H H') : RwAt H' b := ⟨s _ _ h.lst, h.rows.same s⟩
theorem RwAt.chg {H H' : Hp} {p : Addr} {b : RwE} (h : RwAt H b) (hP : PoolAt H p) (n : b.at_ ≠ p) (c : Chg p H H') : RwAt H' b := ⟨c.at n h.lst, fun x hx => chg_tup hP c _ _ (h.rows x hx)⟩
theorem RwAt.oth {H : Hp} {b : RwE} {q : Addr} {o u : HO} (h : RwAt H b) (hq : H q = some u) (nt : ∀ xs, u ≠ .tup xs) (n : b.at_ ≠ q) : RwAt (upd H q o) b := ⟨by rw [upd_ne n]; exact h.lst, fun x hx => upd_tup hq nt _ _ (h.rows x hx)⟩
def spRows : Sp := fun vs H Q _ => ∃ (p t k pal : Addr) (most : Nat) (m : Nat) (wm : Int) (ts : List (Str × Int)) (ks : List KeyE) (vals : List Key), vs = [.ref p, .ref t, .ref k, .ref pal, .int (most : Int)] ∧ PoolAt H p ∧ H t = some (.dK (tabK ts)) ∧ H k = some (.dK (keyK ks)) ∧ Tabs ts m wm ∧ m ≤ 26 ∧ wm ≤ 100 ∧ Keys H ts ks ∧
  H pal = some (.lst (vals.map kV)) ∧ pal ≠ p ∧ 1 ≤ vals.length ∧ vals.length ≤ 100 ∧ (∀ x ∈ vals, KVal x) ∧ most ≤ 100 ∧
  ∀ (f : Addr) (es : List RwE) (H' : Hp), H f = none → H' f = some (.dK (rwK es)) → es.map (·.name) = ts.map (·.1) → (∀ b ∈ es, RwAt H' b ∧ b.at_ ≠ p ∧ H b.at_ = none ∧ b.rows.length ≤ most ∧ ∃ w, (b.name, w) ∈ ts ∧ RowsOk w (markOf ks b.name) (b.rows.map (·.2))) → (es.map (·.at_)).Nodup → Chg p H H' → Q (.ref f) H'
section
variable {P : Program} {w : World} {K : PySem.W.Frag} {mg : Str → Option Value} {base : Heap} {a : Nat → Addr} {d : Nat → FuncData}
end
/-! ### are_values, columns_of -/
def goodT (xs : List V) (m : Int) : Bool := decide ((xs.length : Int) = m) && xs.all valV'
theorem thg_key {H : Hp} {k : Key} (h : KVal k) : Thg H (kV k) := by
  cases k with
  | inl i => exact .int i
  | inr s => exact .str s (by have := h.2.1; omega) fun c hc => by have := (h.2.2 c hc).2; omega
theorem valV_key {k : Key} (h : KVal k) : valV' (kV k) = true := by
  cases k with
  | inl i =>
    refine decide_eq_true ?_
    have e : (10 : Int) ^ 30 - 1 = 999999999999999999999999999999 := by decide
    obtain ⟨h1, h2⟩ := (show -(10 ^ 30 - 1) ≤ i ∧ i ≤ 10 ^ 30 - 1 from h)
    rw [e] at h1 h2
    exact ⟨h1, h2⟩
  | inr s =>
    show wordB s = true
    unfold wordB
    rw [decide_eq_true ⟨h.1, h.2.1⟩, Bool.true_and, List.all_eq_true]
    exact fun c hc => decide_eq_true (h.2.2 c hc)
theorem good_row {r : RowK} {m : Int} (hm : (r.length : Int) = m) (h : ∀ k ∈ r, KVal k) : goodT (r.map kV) m = true := by
  unfold goodT
  rw [List.length_map, decide_eq_true hm, Bool.true_and, List.all_eq_true]
  intro x hx
  obtain ⟨k, hk, rfl⟩ := List.mem_map.mp hx
  exact valV_key (h k hk)
section
variable {P : Program} {w : World} {K : PySem.W.Frag} {mg : Str → Option Value} {base : Heap} {a : Nat → Addr} {d : Nat → FuncData}
def spAre : Sp := fun vs H Q _ => ∃ (p : Addr) (xs : List V) (m : Int), vs = [.ref p, .int m] ∧ H p = some (.tup xs) ∧ xs.length ≤ 100 ∧ (∀ x ∈ xs, Thg H x) ∧ ∀ H', Same H H' → Q (.bl (goodT xs m)) H'
theorem ok_are (T : Txt K mg a d) : FnOk P w K mg base CX0 3 (a 14) (d 14) ["thing", "many"] spAre := by
  have G13 : FnOk P w K mg base CX0 2 (a 13) (d 13) ["thing"] (spB valV') := ok_is_value T
  refine T.F14.ok sc_are_values (fun vs H Q E h => ?_) (fun cdv A outer s H vs Q E hr h => ?_)
  · obtain ⟨p, xs, m, rfl, _⟩ := h
    rfl
  · obtain ⟨p, xs, m, rfl, hp, hl, hx, q⟩ := h
    refine ⟨_, (pss_one (ps_ret (pe_and (pe_callB (id := "isinstance")  call_isi (by rfl) T.z_isinstance (by decide +kernel) (pa_cons (pv 0) (pa_cons (pe_bltn (v := .ty "tuple") (by rfl) T.z_tuple (by decide +kernel) rfl) pa_nil))) (pe_and (pe_cmpR op_eq (pe_callB (id := "len")  call_len_seq (by rfl) T.z_len (by decide +kernel) (pa_cons (pv 0) pa_nil)) (pv 1) (nomark _)) (pe_one (pe_callB (id := "all")  (cr_all rfl) (by rfl) T.z_all (by decide +kernel) (pa_cons (pe_lc (own := [("part", 2)]) rfl sc_are_values.nd (pi_tup (pv 0)) (blkOk_by (N := ["thing", "many", "part"]) (sc := defScope s_are_values) (by decide +kernel)) (fun _ _ _ _ _ => pg_name (i := 2) sc_are_values.nd rfl (.inl rfl)) (fun _ _ _ _ _ => pts_nil) (fun _ _ _ _ _ => (pe_call G13 (hr.mono (by decide)) (by rfl) T.g13 T.F13.kp T.b13 .nil pass0 (pa_cons (pv 2) pa_nil)))) pa_nil))))))), ?_⟩
    refine ⟨_, rfl, _, _, _, _, _, rfl, .ty _, .base (.tup hp), kit_ty (show kitB "tuple" "tuple" = some true by decide +kernel), true, rfl, ifT ?_⟩
    refine ⟨_, rfl, _, _, rfl, .inr (.of hp), _, rfl, rfl, _, rfl, ?_⟩
    unfold goodT at q
    refine (fun (A B : Prop) (h1 : (xs.length : Int) = m → A) (h2 : (xs.length : Int) ≠ m → B) => (show if decide (V.int (xs.length : Int) = V.int m) = true then A else B from ite_eqI h1 h2)) _ _ (fun e => ?_) (fun ne => ?_)
    · rw [decide_eq_true e, Bool.true_and] at q
      refine ⟨_, rfl, p, rfl, ⟨_, .of hp⟩, fun D hD => ?_⟩
      refine lc_tup (K := K) (a := p) (xs := xs) (fun i H' => H' D = some (.lst (((xs.take i).map valV').map V.bl)) ∧ Same H H') ⟨upd_same, same_upd hD⟩ (fun i H' _ h => .of (h.2 _ _ hp)) (fun i x H' hx' h => ?_) (fun H' h => ?_)
      · have li : i < xs.length := (List.getElem?_eq_some_iff.mp hx').1
        refine ⟨rfl, _, rfl, x, rfl, (hx x (List.mem_of_getElem? hx')).same h.2, fun H2 s2 => ⟨_, s2 _ _ h.1, ?_, ?_, fun b o e => ?_⟩⟩
        · rw [List.length_map, List.length_map, List.length_take]
          exact small1000 (by omega)
        · rw [map_take hx', List.map_append]
          exact upd_same
        · rw [upd_ne (ne_of_none e hD)]
          exact s2 _ _ (h.2 b o e)
      · obtain ⟨h1, h2⟩ := h
        rw [List.take_length] at h1
        refine ⟨D, _, rfl, .of h1, ?_⟩
        have ea : ((xs.map valV').all id) = xs.all valV' := by rw [List.all_map]; rfl
        rw [ea]
        exact q H' h2
    · rw [decide_eq_false ne, Bool.false_and] at q
      exact q H (Same.refl H)
def spColsOf : Sp := fun vs H Q _ => ∃ (p c : Addr) (r : RowK) (cs : List Int), vs = [.ref p, .ref c] ∧ RowAt H p r ∧ H c = some (.tup (cs.map V.int)) ∧ (∀ x ∈ cs, 0 ≤ x ∧ x < (r.length : Int)) ∧ cs.length ≤ 100 ∧ ∀ t H', RowAt H' t (projR cs r) → Same H H' → Q (.ref t) H'
theorem ok_columns_of (T : Txt K mg a d) : FnOk P w K mg base CX0 1 (a 15) (d 15) ["row", "columns"] spColsOf := by
  refine T.F15.ok sc_columns_of (fun vs H Q E h => ?_) (fun cdv A outer s H vs Q E hr h => ?_)
  · obtain ⟨p, c, r, cs, rfl, _⟩ := h
    rfl
  · obtain ⟨p, c, r, cs, rfl, hp, hc, hc2, hc3, q⟩ := h
    refine ⟨_, (pss_one (ps_ret (pe_callTy (T := "tuple")  call_tuple_of (by rfl) T.z_tuple (by decide +kernel) (pa_cons (pe_lc (own := [("column", 2)]) rfl sc_columns_of.nd (pi_tup (pv 1)) (blkOk_by (N := ["row", "columns", "column"]) (sc := defScope s_columns_of) (by decide +kernel)) (fun _ _ _ _ _ => pg_name (i := 2) sc_columns_of.nd rfl (.inl rfl)) (fun _ _ _ _ _ => pts_nil) (fun _ _ _ _ _ => (pe_ix (r := rIxT K) ix_tup (pv 0) (pv 2) (fun _ _ => rfl)))) pa_nil)))), ?_⟩
    refine ⟨_, rfl, c, rfl, ⟨_, .of hc⟩, fun D hD => ?_⟩
    refine lc_tup (K := K) (a := c) (xs := cs.map V.int) (fun j H2 => H2 D = some (.lst ((projR (cs.take j) r).map kV)) ∧ Same H H2) ⟨upd_same, same_upd hD⟩ (fun j H2 _ hp => .of (hp.2 _ _ hc)) (fun j x H2 hx h => ?_) (fun H2 h => ?_)
    · obtain ⟨z, hz, rfl⟩ := map_at hx
      have hzm := hc2 z (List.mem_of_getElem? hz)
      have hj : j < cs.length := (List.getElem?_eq_some_iff.mp hz).1
      refine ⟨rfl, _, rfl, _, rfl, p, _, z, _, rfl, rfl, .of (h.2 _ _ hp), getD_at hzm.1 hzm.2, _, h.1, ?_, ?_, fun x o e => ?_⟩
      · unfold projR
        rw [List.length_map, List.length_map, List.length_take]
        exact small1000 (by omega)
      · rw [projR_snoc hz, List.map_append]
        exact upd_same
      · rw [upd_ne (ne_of_none e hD)]
        exact h.2 x o e
    · obtain ⟨h1, h2⟩ := h
      rw [List.length_map, List.take_length] at h1
      exact ⟨D, _, rfl, .inl ⟨.of h1, fun t ht => q t _ upd_same (h2.trans (same_upd ht))⟩⟩
end
/-! ### _check_table, where all is right -/
def colsW (w : Int) : List Int := (List.range w.toNat).map fun i => (0 : Int) + (i : Nat)
def colsOf (w : Int) (mk : Option (List Int)) : List Int := mk.getD (colsW w)
theorem rgV_cols (w : Int) : rgV 0 w = (colsW w).map V.int := by
  unfold rgV colsW
  rw [List.map_map, Int.sub_zero]
  rfl
theorem projR_all {r : RowK} {w : Int} (h : (r.length : Int) = w) : projR (colsW w) r = r := by
  unfold projR colsW
  rw [List.map_map]
  refine List.ext_getElem (by rw [List.length_map, List.length_range]; omega) fun i h1 h2 => ?_
  rw [List.getElem_map, List.getElem_range]
  show r.getD ((0 : Int) + (i : Nat)).toNat (.inl 0) = _
  rw [show ((0 : Int) + (i : Nat)).toNat = i by omega, List.getD_eq_getElem?_getD, List.getElem?_eq_getElem h2]
  rfl
theorem colsOf_in {w : Int} {mk : Option (List Int)} (h : ∀ cs, mk = some cs → ∀ x ∈ cs, 0 ≤ x ∧ x < w) : ∀ x ∈ colsOf w mk, 0 ≤ x ∧ x < w := by
  cases mk with
  | some cs => exact h cs rfl
  | none =>
    intro x hx
    obtain ⟨i, hi, rfl⟩ := List.mem_map.mp (show x ∈ colsW w from hx)
    have := List.mem_range.mp hi
    omega
theorem RowsOk.proj {w : Int} {mk : Option (List Int)} {rs : List RowK} (h : RowsOk w mk rs) : (rs.map (projR (colsOf w mk))).Nodup := by
  refine List.pairwise_map.mpr (h.apart.imp_of_mem fun {a b} ha hb hab => ?_)
  obtain ⟨n1, n2⟩ := hab
  cases mk with
  | some cs => exact n2 cs rfl
  | none =>
    show projR (colsW w) a ≠ projR (colsW w) b
    rw [projR_all (h.wid a ha).1, projR_all (h.wid b hb).1]
    exact n1
section
variable {P : Program} {w : World} {K : PySem.W.Frag} {mg : Str → Option Value} {base : Heap} {a : Nat → Addr} {d : Nat → FuncData}
def spChkTab (C : Addr) : Sp := fun vs H Q _ => ∃ (x l : Addr) (n : Str) (w : Int) (ts : List (Str × Int)) (ks : List KeyE) (ss : List SvE) (mt ms : Nat) (L : List (Addr × RowK)), vs = [.ref x, .str n, .ref l] ∧ SchAt C x H ts ks ss mt ms ∧ (n, w) ∈ ts ∧ H l = some (.lst (L.map fun b => V.ref b.1)) ∧ RowsAt H L ∧ RowsOk w (markOf ks n) (L.map (·.2)) ∧ L.length ≤ 500 ∧ ∀ H', Same H H' → Q .non H'
end
/-! ### _by_given -/
theorem filt1 {α : Type} {p : α → Bool} {b : α} (h : p b = true) : [b].filter p = [b] := by simp [h]
theorem filt0 {α : Type} {p : α → Bool} {b : α} (h : p b = false) : [b].filter p = [] := by simp [h]
/-- a group: what the rows have at the columns, the place of their list, the rows -/
abbrev Grp := RowK × Addr × List (Addr × RowK)
structure Groups (H : Hp) (D : Addr) (cs : List Int) (L : List (Addr × RowK)) (gs : List Grp) : Prop where
  dic : H D = some (.dT (gs.map fun g => (g.1, V.ref g.2.1)))
  lst : ∀ g ∈ gs, H g.2.1 = some (.lst (g.2.2.map fun b => V.ref b.1))
  keys : (gs.map (·.1)).Nodup
  ats : (gs.map (·.2.1)).Nodup
  val : ∀ g ∈ gs, g.2.2 = L.filter fun b => decide (projR cs b.2 = g.1)
  all : ∀ b ∈ L, projR cs b.2 ∈ gs.map (·.1)
  le : gs.length ≤ L.length
theorem Groups.same {H H' : Hp} {D : Addr} {cs : List Int} {L : List (Addr × RowK)} {gs : List Grp} (g : Groups H D cs L gs) (s : Same H H') : Groups H' D cs L gs := ⟨s _ _ g.dic, fun x hx => s _ _ (g.lst x hx), g.keys, g.ats, g.val, g.all, g.le⟩
theorem grp_keys (gs : List Grp) : (gs.map fun g => (g.1, V.ref g.2.1)).map (·.1) = gs.map (·.1) := by
  rw [List.map_map]
  rfl
theorem Groups.new {H : Hp} {D e : Addr} {cs : List Int} {L : List (Addr × RowK)} {gs : List Grp} {b : Addr × RowK} (g : Groups H D cs L gs) (he : H e = some (.lst [])) (hn : ∀ x ∈ gs, x.2.1 ≠ e) (no : projR cs b.2 ∉ gs.map (·.1)) :
    Groups (upd (upd H D (.dT (putK (gs.map fun g => (g.1, V.ref g.2.1)) (projR cs b.2) (.ref e)))) e (.lst [.ref b.1])) D cs (L ++ [b]) (gs ++ [(projR cs b.2, e, [b])]) := by
  have nDe : D ≠ e := ne_of g.dic he (by intro z; cases z)
  refine ⟨?_, fun x hx => ?_, ?_, ?_, fun x hx => ?_, fun y hy => ?_, ?_⟩
  · rw [upd_ne nDe, putK_new _ (valV_no (by rw [grp_keys]; exact no)), List.map_append]
    exact upd_same
  · rcases List.mem_append.mp hx with h | h
    · have h1 := g.lst x h
      rw [upd_ne (hn x h), upd_ne (ne_of h1 g.dic (by intro z; cases z))]
      exact h1
    · rw [List.mem_singleton.mp h]
      exact upd_same
  · rw [List.map_append]
    refine List.nodup_append.mpr ⟨g.keys, List.nodup_cons.mpr ⟨by simp, List.nodup_nil⟩, fun x hx y hy e' => ?_⟩
    rw [List.mem_singleton.mp hy] at e'
    have e2 : x = projR cs b.2 := e'
    rw [e2] at hx
    exact no hx
  · rw [List.map_append]
    refine List.nodup_append.mpr ⟨g.ats, List.nodup_cons.mpr ⟨by simp, List.nodup_nil⟩, fun x hx y hy e' => ?_⟩
    rw [List.mem_singleton.mp hy] at e'
    obtain ⟨z, hz, rfl⟩ := List.mem_map.mp hx
    exact hn z hz e'
  · rw [List.filter_append]
    rcases List.mem_append.mp hx with h | h
    · have : projR cs b.2 ≠ x.1 := fun z => no (List.mem_map.mpr ⟨x, h, z.symm⟩)
      rw [filt0 (b := b) (p := fun b : Addr × RowK => decide (projR cs b.2 = x.1)) (decide_eq_false this), List.append_nil]
      exact g.val x h
    · rw [List.mem_singleton.mp h]
      have e0 : L.filter (fun y => decide (projR cs y.2 = projR cs b.2)) = [] := List.filter_eq_nil_iff.mpr fun y hy z => no (by rw [← of_decide_eq_true z]; exact g.all y hy)
      show [b] = L.filter (fun y => decide (projR cs y.2 = projR cs b.2)) ++ [b].filter (fun y => decide (projR cs y.2 = projR cs b.2))
      rw [e0, List.nil_append, filt1 (b := b) (p := fun y : Addr × RowK => decide (projR cs y.2 = projR cs b.2)) (decide_eq_true rfl)]
  · rw [List.map_append]
    rcases List.mem_append.mp hy with h | h
    · exact List.mem_append.mpr (.inl (g.all y h))
    · rw [List.mem_singleton.mp h]
      exact List.mem_append.mpr (.inr (List.mem_singleton.mpr rfl))
  · rw [List.length_append, List.length_append]
    exact Nat.add_le_add_right g.le 1
theorem valV_grp {gs : List Grp} (nd : (gs.map (·.1)).Nodup) {g : Grp} (hg : g ∈ gs) : valV (gs.map fun g => (g.1, V.ref g.2.1)) g.1 = some (.ref g.2.1) :=
  val_nodup (kvs := gs.map fun g => (g.1, V.ref g.2.1)) (by rw [grp_keys]; exact nd) (g.1, V.ref g.2.1) (List.mem_map.mpr ⟨g, hg, rfl⟩)
theorem Groups.add {H : Hp} {D : Addr} {cs : List Int} {L : List (Addr × RowK)} {gs : List Grp} {b : Addr × RowK} {g : Grp} (G : Groups H D cs L gs) (hg : g ∈ gs) (hk : projR cs b.2 = g.1) :
    Groups (upd H g.2.1 (.lst ((g.2.2.map fun b => V.ref b.1) ++ [.ref b.1]))) D cs (L ++ [b]) (gs.map fun x => if x.1 = g.1 then (x.1, x.2.1, x.2.2 ++ [b]) else x) := by
  have f1 : (gs.map fun x => if x.1 = g.1 then (x.1, x.2.1, x.2.2 ++ [b]) else x).map (·.1) = gs.map (·.1) := by
    rw [List.map_map]
    exact List.map_congr_left fun x _ => by show (if x.1 = g.1 then (x.1, x.2.1, x.2.2 ++ [b]) else x).1 = x.1; split <;> rfl
  have f2 : (gs.map fun x => if x.1 = g.1 then (x.1, x.2.1, x.2.2 ++ [b]) else x).map (·.2.1) = gs.map (·.2.1) := by
    rw [List.map_map]
    exact List.map_congr_left fun x _ => by show (if x.1 = g.1 then (x.1, x.2.1, x.2.2 ++ [b]) else x).2.1 = x.2.1; split <;> rfl
  have f3 : ((gs.map fun x => if x.1 = g.1 then (x.1, x.2.1, x.2.2 ++ [b]) else x).map fun g => (g.1, V.ref g.2.1)) = gs.map fun g => (g.1, V.ref g.2.1) := by
    rw [List.map_map]
    exact List.map_congr_left fun x _ => by show ((if x.1 = g.1 then (x.1, x.2.1, x.2.2 ++ [b]) else x).1, V.ref (if x.1 = g.1 then (x.1, x.2.1, x.2.2 ++ [b]) else x).2.1) = (x.1, V.ref x.2.1); split <;> rfl
  have inj : ∀ x ∈ gs, ∀ y ∈ gs, x.2.1 = y.2.1 → x.1 = y.1 := fun x hx y hy e => by
    by_cases h : x.1 = y.1
    · exact h
    · exfalso
      obtain ⟨i, hi, rfl⟩ := List.mem_iff_getElem.mp hx
      obtain ⟨j, hj, rfl⟩ := List.mem_iff_getElem.mp hy
      have := (List.nodup_iff_pairwise_ne.mp G.ats)
      have hij : i ≠ j := fun z => h (by subst z; rfl)
      rcases Nat.lt_or_gt_of_ne hij with l | l
      · exact List.pairwise_iff_getElem.mp this i j (by rw [List.length_map]; exact hi) (by rw [List.length_map]; exact hj) l (by rw [List.getElem_map, List.getElem_map]; exact e)
      · exact List.pairwise_iff_getElem.mp this j i (by rw [List.length_map]; exact hj) (by rw [List.length_map]; exact hi) l (by rw [List.getElem_map, List.getElem_map]; exact e.symm)
  have key : ∀ x ∈ gs, x.1 = g.1 → x.2 = g.2 := fun x hx e => by
    have h1 := valV_grp G.keys hx
    have h2 := valV_grp G.keys hg
    rw [e, h2] at h1
    have h3 : g.2.1 = x.2.1 := V.ref.inj (Option.some.inj h1)
    have h4 := G.lst x hx
    exact Prod.ext h3.symm (by rw [G.val x hx, G.val g hg, e])
  refine ⟨?_, fun x hx => ?_, by rw [f1]; exact G.keys, by rw [f2]; exact G.ats, fun x hx => ?_, fun y hy => ?_, by rw [List.length_map, List.length_append]; exact Nat.le_succ_of_le G.le⟩
  · rw [f3, upd_ne (ne_of G.dic (G.lst g hg) (by intro z; cases z))]
    exact G.dic
  · obtain ⟨z, hz, rfl⟩ := List.mem_map.mp hx
    by_cases h : z.1 = g.1
    · rw [if_pos h]
      have h2 := key z hz h
      show upd H g.2.1 _ z.2.1 = some (.lst ((z.2.2 ++ [b]).map fun b => V.ref b.1))
      rw [h2, List.map_append]
      exact upd_same
    · rw [if_neg h, upd_ne (fun e => h (inj z hz g hg e))]
      exact G.lst z hz
  · obtain ⟨z, hz, rfl⟩ := List.mem_map.mp hx
    rw [List.filter_append]
    by_cases h : z.1 = g.1
    · rw [if_pos h]
      show z.2.2 ++ [b] = L.filter (fun b => decide (projR cs b.2 = z.1)) ++ [b].filter fun b => decide (projR cs b.2 = z.1)
      rw [G.val z hz, filt1 (b := b) (p := fun b : Addr × RowK => decide (projR cs b.2 = z.1)) (decide_eq_true (by rw [hk, h]))]
    · rw [if_neg h, filt0 (b := b) (p := fun b : Addr × RowK => decide (projR cs b.2 = z.1)) (decide_eq_false fun q => h (by rw [← q, hk])), List.append_nil]
      exact G.val z hz
  · rw [f1]
    rcases List.mem_append.mp hy with h | h
    · exact G.all y h
    · rw [List.mem_singleton.mp h, hk]
      exact List.mem_map.mpr ⟨g, hg, rfl⟩
section
variable {P : Program} {w : World} {K : PySem.W.Frag} {mg : Str → Option Value} {base : Heap} {a : Nat → Addr} {d : Nat → FuncData}
def spByGiven : Sp := fun vs H Q _ => ∃ (l c : Addr) (L : List (Addr × RowK)) (cs : List Int) (w : Int), vs = [.ref l, .ref c] ∧ H l = some (.lst (L.map fun b => V.ref b.1)) ∧ RowsAt H L ∧ H c = some (.tup (cs.map V.int)) ∧ (∀ x ∈ cs, 0 ≤ x ∧ x < w) ∧ (∀ b ∈ L, (b.2.length : Int) = w) ∧ cs.length ≤ 100 ∧ L.length ≤ 1000 ∧
  ∀ (D : Addr) (gs : List Grp) (H' : Hp), H D = none → (∀ g ∈ gs, H g.2.1 = none) → Groups H' D cs L gs → Same H H' → Q (.ref D) H'
theorem ok_by_given (T : Txt K mg a d) : FnOk P w K mg base CX0 2 (a 39) (d 39) ["rows", "given"] spByGiven := by
  have G15 : FnOk P w K mg base CX0 1 (a 15) (d 15) ["row", "columns"] spColsOf := ok_columns_of T
  refine T.F39.ok sc__by_given (fun vs H Q E h => ?_) (fun cdv A outer s H vs Q E hr h => ?_)
  · obtain ⟨l, c, L, cs, w, rfl, _⟩ := h
    rfl
  · obtain ⟨l, c, L, cs, w, rfl, hl, hL, hc, hcs, hw, hcl, hlen, q⟩ := h
    refine ⟨_, (pss_cons (ps_set (i := 2) sc__by_given.nd rfl (.inl rfl) pe_dnewT)
  (pss_cons (ps_for PassesOwn.never rfl (pi_list (pv 0)) (pg_name (i := 3) sc__by_given.nd rfl (.inl rfl))
    (pss_one (ps_expr (pe_bm PySem.F.plainAttrs_list PySem.F.slot_list_append PySem.F.type_list_append mt_append (pe_bm PySem.F.plainAttrs_dict PySem.F.slot_dict_setdefault PySem.F.type_dict_setdefault (mt_setdefT (hu_of hr)) (pv 2) (pa_cons (pe_call G15 (hr.mono (by decide)) (by rfl) T.g15 T.F15.kp T.b15 .nil pass0 (pa_cons (pv 3) (pa_cons (pv 1) pa_nil))) (pa_cons (pe_lst pa_nil) pa_nil))) (pa_cons (pv 3) pa_nil)))))
  (pss_one (ps_ret (pv 2))))), ?_⟩
    intro D hD
    have sD := same_upd (o := .dT []) hD
    refine ⟨_, rfl, l, rfl, ⟨_, .of (sD _ _ hl)⟩, for_list (K := K) (a := l) (xs := L.map fun b => V.ref b.1) (fun i σ H' => ∃ (y3 : Option V) (gs : List Grp), σ = [some (.ref l), some (.ref c), some (.ref D), y3] ∧ Groups H' D cs (L.take i) gs ∧ (∀ g ∈ gs, H g.2.1 = none) ∧ Same H H') ⟨none, [], rfl, ⟨upd_same, (fun g hg => by cases hg), List.nodup_nil, List.nodup_nil, (fun g hg => by cases hg), (fun b hb => by cases hb), Nat.le_refl _⟩, (fun g hg => by cases hg), sD⟩ (fun i σ H' _ hp => ?_) (fun i y σ H' hy hp => ?_) (fun σ H' hp => ?_)⟩
    · obtain ⟨y3, gs, rfl, _, _, s⟩ := hp
      exact .of (s _ _ hl)
    · obtain ⟨y3, gs, rfl, G, hf, s⟩ := hp
      obtain ⟨b, hb, rfl⟩ := map_at hy
      have hbm := List.mem_of_getElem? hb
      have li : i < L.length := (List.getElem?_eq_some_iff.mp hb).1
      have hgl := G.le
      rw [List.length_take] at hgl
      refine ⟨_, rfl, .inr (.inr (.inl ⟨rfl, .inr ⟨_, G.dic⟩⟩)), _, rfl, _, rfl, b.1, c, b.2, cs, rfl, s _ _ (hL b hbm), s _ _ hc, fun x hx => by rw [hw b hbm]; exact hcs x hx, hcl, fun t H4 ht s4 => ⟨Nat.zero_le _, fun e he => ?_⟩⟩
      have se := same_upd (o := .lst []) he
      have s5 := s4.trans se
      have G5 := G.same s5
      have ht5 := se _ _ ht
      have he5 : upd H4 e (.lst []) e = some (.lst []) := upd_same
      have sH := s.trans s5
      have e0 : H e = none := s.free (s4.free he)
      have ne : ∀ g ∈ gs, g.2.1 ≠ e := fun g hg => ne_of_none (s4 _ _ (G.lst g hg)) he
      generalize upd H4 e (.lst []) = H5 at *
      have tk : L.take (i + 1) = L.take i ++ [b] := by rw [List.take_add_one, hb]; rfl
      refine ⟨D, _, projR cs b.2, t, .ref e, rfl, rfl, G5.dic, ht5, ?_, fun v hv => ?_, fun hn => ?_⟩
      · rw [List.length_map]
        exact small1000 (by omega)
      · obtain ⟨g, hg, e3⟩ := List.mem_map.mp (valV_mem hv)
        have e4 : g.1 = projR cs b.2 := (Prod.mk.inj e3).1
        have e5 : V.ref g.2.1 = v := (Prod.mk.inj e3).2
        subst e5
        have hlst := G5.lst g hg
        have hgle : g.2.2.length ≤ i := by
          rw [G5.val g hg]
          refine Nat.le_trans (List.length_filter_le _ _) ?_
          rw [List.length_take]
          omega
        refine ⟨.inl ⟨rfl, _, .of hlst⟩, _, rfl, g.2.1, _, _, rfl, rfl, hlst, by rw [List.length_map]; exact small1000 (by omega), _, _, rfl, by rw [tk]; exact G5.add hg e4.symm, fun x hx => ?_, fun d o e => ?_⟩
        · obtain ⟨z, hz, rfl⟩ := List.mem_map.mp hx
          have := hf z hz
          split <;> exact this
        · rw [upd_ne (ne_of_none e (hf g hg))]
          exact sH _ _ e
      · have no : projR cs b.2 ∉ gs.map (·.1) := fun hm => by
          obtain ⟨g, hg, e3⟩ := List.mem_map.mp hm
          have := valV_grp G5.keys hg
          rw [show g.1 = projR cs b.2 from e3, hn] at this
          cases this
        have nDe : e ≠ D := (ne_of G5.dic he5 (by intro z; cases z)).symm
        have he6 : upd H5 D (.dT (putK (gs.map fun g => (g.1, V.ref g.2.1)) (projR cs b.2) (.ref e))) e = some (.lst []) := by
          rw [upd_ne nDe]
          exact he5
        refine ⟨.inl ⟨rfl, _, .of he6⟩, _, rfl, e, _, _, rfl, rfl, he6, by decide, _, _, rfl, by rw [tk]; exact G5.new he5 ne no, fun x hx => ?_, fun d o e' => ?_⟩
        · rcases List.mem_append.mp hx with h | h
          · exact hf x h
          · rw [List.mem_singleton.mp h]
            exact e0
        · rw [upd_ne (ne_of_none e' e0), upd_ne (ne_of_none e' hD)]
          exact sH _ _ e'
    · obtain ⟨y3, gs, rfl, G, hf, s⟩ := hp
      rw [List.length_map, List.take_length] at G
      exact ⟨_, rfl, q D gs H' hD hf G s⟩
end
/-! ### a Store -/
def fldsT (x R Fi : Addr) : List (Str × V) := putF "_fitting" (.ref Fi) (putF "_rows" (.ref R) (putF "schema" (.ref x) []))
theorem fldt_s (x R Fi : Addr) : (fldsT x R Fi).lookup ("schema" : Str) = some (V.ref x) := by
  unfold fldsT
  rw [lookup_putF, if_neg (by decide +kernel), lookup_putF, if_neg (by decide +kernel), lookup_putF, if_pos rfl]
theorem fldt_r (x R Fi : Addr) : (fldsT x R Fi).lookup ("_rows" : Str) = some (V.ref R) := by
  unfold fldsT
  rw [lookup_putF, if_neg (by decide +kernel), lookup_putF, if_pos rfl]
theorem fldt_f (x R Fi : Addr) : (fldsT x R Fi).lookup ("_fitting" : Str) = some (V.ref Fi) := by
  unfold fldsT
  rw [lookup_putF, if_pos rfl]
theorem fldt_no (x R Fi : Addr) {m : Str} (h1 : ¬ m = "_fitting") (h2 : ¬ m = "_rows") (h3 : ¬ m = "schema") : (fldsT x R Fi).lookup m = none := by
  unfold fldsT
  rw [lookup_putF, if_neg h1, lookup_putF, if_neg h2, lookup_putF, if_neg h3]
  rfl
/-- a table's rows: its name, the place of the dict of its rows, the rows -/
abbrev TabE := Str × Addr × List RowK
def rdK (es : List TabE) : List (Key × V) := es.map fun b => (Sum.inr b.1, V.ref b.2.1)
theorem keys_rd (es : List TabE) : (rdK es).map (·.1) = (es.map (·.1)).map Sum.inr := by
  unfold rdK
  rw [List.map_map, List.map_map]
  rfl
structure StRows (H : Hp) (R : Addr) (es : List TabE) : Prop where
  dct : DctAt H R (rdK es)
  nd : (es.map (·.1)).Nodup
  ats : (es.map (·.2.1)).Nodup
  inner : ∀ b ∈ es, H b.2.1 = some (.dT (b.2.2.map fun k => (k, V.bl true)))
theorem StRows.same {H H' : Hp} {R : Addr} {es : List TabE} (h : StRows H R es) (s : Same H H') : StRows H' R es := ⟨h.dct.same s, h.nd, h.ats, fun b hb => s _ _ (h.inner b hb)⟩
theorem rd_nd {es : List TabE} (h : (es.map (·.1)).Nodup) : ((rdK es).map (·.1)).Nodup := by
  rw [keys_rd]
  exact inr_nd h
theorem rd_val {es : List TabE} (h : (es.map (·.1)).Nodup) {b : TabE} (hb : b ∈ es) : valV (rdK es) (Sum.inr b.1) = some (.ref b.2.1) := val_nodup (rd_nd h) (Sum.inr b.1, V.ref b.2.1) (List.mem_map.mpr ⟨b, hb, rfl⟩)
theorem rd_no {es : List TabE} {n : Str} (h : n ∉ es.map (·.1)) : valV (rdK es) (Sum.inr n) = none := valV_no (by rw [keys_rd]; exact inr_no h)
/-! ### the part of a heap that an object keeps -/
/-- what H' holds where H held nothing, or a tuple, or where G0 holds something -/
def hlet (H H' G0 : Hp) : Hp := fun b => match H b with
  | none => H' b
  | some (.tup _) => H' b
  | some _ => match G0 b with
    | none => none
    | some _ => H' b
theorem hlet_same (H H' G0 : Hp) : Same (hlet H H' G0) H' := fun b o e => by
  unfold hlet at e
  split at e
  · exact e
  · exact e
  · split at e
    · cases e
    · exact e
theorem hlet_new {H H' G0 : Hp} {b : Addr} (h : H b = none) : hlet H H' G0 b = H' b := by
  unfold hlet
  rw [h]
theorem hlet_tup {H H' G0 : Hp} {b : Addr} {xs : List V} (h : H b = some (.tup xs)) : hlet H H' G0 b = H' b := by
  unfold hlet
  rw [h]
theorem hlet_old {H H' G0 : Hp} {b : Addr} {o : HO} (h : G0 b = some o) : hlet H H' G0 b = H' b := by
  unfold hlet
  split
  · rfl
  · rfl
  · rw [h]
theorem hlet_no {H H' G0 : Hp} {b : Addr} {o : HO} (h : H b = some o) (nt : ∀ xs, o ≠ .tup xs) (g : G0 b = none) : hlet H H' G0 b = none := by
  unfold hlet
  rw [h]
  split
  · rename_i e
    cases e
  · rename_i e
    exact absurd (Option.some.inj e) (nt _)
  · rw [g]
def cut (H : Hp) (p : Addr) : Hp := fun b => if b = p then none else H b
theorem cut_at (H : Hp) (p : Addr) : cut H p p = none := if_pos rfl
theorem cut_ne {H : Hp} {p b : Addr} (h : b ≠ p) : cut H p b = H b := if_neg h
theorem cut_none {H : Hp} {p b : Addr} (h : H b = none) : cut H p b = none := by
  unfold cut
  split
  · rfl
  · exact h
/-! ### a Store whole -/
structure Srt (us rs : List RowK) : Prop where
  all : ∀ r, r ∈ us ↔ r ∈ rs
  up : us.Pairwise fun a b => rowLt a b = true
/-- a service: its name, the place of its dict, the given columns, the rows of its table, the groups -/
structure FitE where
  name : Str
  at_ : Addr
  cols : List Int
  L : List (Addr × RowK)
  gs : List Grp
def fitK (fs : List FitE) : List (Key × V) := fs.map fun f => (Sum.inr f.name, V.ref f.at_)
theorem keys_fit (fs : List FitE) : (fitK fs).map (·.1) = (fs.map (·.name)).map Sum.inr := by
  unfold fitK
  rw [List.map_map, List.map_map]
  rfl
structure FitOk (G : Hp) (ss : List SvE) (es : List TabE) (f : FitE) : Prop where
  grp : Groups G f.at_ f.cols f.L f.gs
  rows : RowsAt G f.L
  svc : ∃ b ∈ ss, b.name = f.name ∧ b.cols = f.cols ∧ ∃ e ∈ es, e.1 = b.tab ∧ f.L.map (·.2) = e.2.2
theorem FitOk.same {G H : Hp} {ss : List SvE} {es : List TabE} {f : FitE} (h : FitOk G ss es f) (s : Same G H) : FitOk H ss es f := ⟨h.grp.same s, h.rows.same s, h.svc⟩
structure StO (C CS p dx x R Fi : Addr) (G : Hp) (ts : List (Str × Int)) (ks : List KeyE) (ss : List SvE) (mt ms : Nat) (es : List TabE) : Prop where
  ob : G p = some (.ins CS dx (fldsT x R Fi))
  sch : SchAt C x G ts ks ss mt ms
  rows : StRows G R es
  names : (es.map (·.1)).Perm (ts.map (·.1))
  wid : ∀ b ∈ es, ∃ w, (b.1, w) ∈ ts ∧ ∀ r ∈ b.2.2, (r.length : Int) = w ∧ ∀ k ∈ r, KVal k
  lens : ∀ b ∈ es, b.2.2.length ≤ 500
  srt : ∀ b ∈ es, b.2.2.Pairwise fun a b => rowLt a b = true
  fit : ∃ fs, DctAt G Fi (fitK fs) ∧ (fs.map (·.name)).Perm (ss.map (·.name)) ∧ ∀ f ∈ fs, FitOk G ss es f
theorem StO.same {C CS p dx x R Fi : Addr} {G H : Hp} {ts : List (Str × Int)} {ks : List KeyE} {ss : List SvE} {mt ms : Nat} {es : List TabE} (h : StO C CS p dx x R Fi G ts ks ss mt ms es) (s : Same G H) : StO C CS p dx x R Fi H ts ks ss mt ms es := by
  obtain ⟨fs, f1, f2, f3⟩ := h.fit
  exact ⟨s _ _ h.ob, h.sch.same s, h.rows.same s, h.names, h.wid, h.lens, h.srt, fs, f1.same s, f2, fun f hf => (f3 f hf).same s⟩
section
variable {P : Program} {w : World} {K : PySem.W.Frag} {mg : Str → Option Value} {base : Heap} {a : Nat → Addr} {d : Nat → FuncData}
def spGetT (C CS CU : Addr) : Sp := fun vs H Q E => ∃ (p dx x R Fi : Addr) (n : Str) (ts : List (Str × Int)) (ks : List KeyE) (ss : List SvE) (mt ms : Nat) (es : List TabE), vs = [.ref p, .str n] ∧ StO C CS p dx x R Fi H ts ks ss mt ms es ∧
  (∀ b ∈ es, b.1 = n → ∀ (q : Addr) (L : List (Addr × RowK)) (H' : Hp), H q = none → L.map (·.2) = b.2.2 → RowsAt H' L → Same H H' → H' q = some (.lst (L.map fun y => V.ref y.1)) → Q (.ref q) H') ∧ (n ∉ es.map (·.1) → Unk CU (.str n) H E)
theorem ok_getT (T : Txt K mg a d) : FnOk P w K mg base (L2.CX P w) 5 (a 5001) (d 5001) ["self", "table"] (spGetT (a 34) (a 40) (a 3)) := by
  have G4408 : FnOk P w K mg base (L2.CX P w) 4 (a 4408) (d 4408) ["self", "table"] (spAsk (a 34) (a 3) (fun ts _ _ n => valV (tabK ts) (Sum.inr n)) (fun ts _ _ n => valV (tabK ts) (Sum.inr n))) := ok_width_of T
  refine T.F5001.okX sc_Store___getitem__ (fun vs H Q E h => ?_) (fun cdv A outer s H vs Q E hr h => ?_)
  · obtain ⟨p, dx, x, R, Fi, n, ts, ks, ss, mt, ms, es, rfl, _⟩ := h
    rfl
  · obtain ⟨p, dx, x, R, Fi, n, ts, ks, ss, mt, ms, es, rfl, hO, q1, q2⟩ := h
    have hp := hO.ob
    have hS := hO.rows
    obtain ⟨xd, d1, d2, d3, o⟩ := id hO.sch
    refine ⟨_, (pss_cons (ps_expr (pe_meth (pe_fld (pv 0) rfl) T.cl_34 T.m_4408 G4408 (hr.mono (by decide)) T.b4408 .nil (passes_call (takes_of rfl rfl rfl rfl) (fun _ _ _ _ h => h)) (pa_cons (pv 1) pa_nil)))
  (pss_one (ps_ret (pe_callTy (T := "list")  (call_list_dT rfl) (by rfl) T.z_list (by decide +kernel) (pa_cons (pe_dget (hu_of hr) (pe_fld (pv 0) rfl) (pv 1) (fun _ _ => rfl)) pa_nil))))), ?_⟩
    refine ⟨_, rfl, p, _, dx, _, _, rfl, hp, T.cl_40, T.no_40_schema, fldt_s _ _ _, x, xd, _, rfl, o.ob, flds_no _ _ _ (by decide +kernel) (by decide +kernel) (by decide +kernel), _, rfl, x, n, ts, ks, ss, mt, ms, rfl, hO.sch, fun v hv => ?_, fun hn => ?_⟩
    · have hm : n ∈ es.map (·.1) := by
        rw [hO.names.mem_iff]
        obtain ⟨y, hy, e⟩ := List.mem_map.mp (valV_mem (show valV (tabK ts) (Sum.inr n) = some v from hv))
        have e1 : y.1 = n := Sum.inr.inj (Prod.mk.inj e).1
        exact List.mem_map.mpr ⟨y, hy, e1⟩
      obtain ⟨b, hb, rfl⟩ := List.mem_map.mp hm
      refine ⟨v, hv, ?_⟩
      refine ⟨_, rfl, p, _, dx, _, _, rfl, hp, T.cl_40, T.no_40__rows, fldt_r _ _ _, _, rfl, R, _, rfl, hS.dct.at_ (rd_nd hS.nd) (rd_val hS.nd hb), b.2.1, _, rfl, .inl (hS.inner b hb), fun q bs hq hk => ?_⟩
      obtain ⟨L0, b1, b2, b3⟩ := keys_zip hk
      have sq := same_upd (o := .lst (bs.map V.ref)) hq
      refine q1 b hb rfl q L0 _ hq b2 (b3.same sq) sq ?_
      rw [← b1, List.map_map]
      exact upd_same
    · refine q2 fun hm => ?_
      rw [hO.names.mem_iff] at hm
      obtain ⟨y, hy, rfl⟩ := List.mem_map.mp hm
      have h4 := val_nodup (tab_nd o.hT) (Sum.inr y.1, V.int y.2) (List.mem_map.mpr ⟨y, hy, rfl⟩)
      rw [show valV (tabK ts) (Sum.inr y.1) = none from hn] at h4
      cases h4
/-- a row that stands in a table, or none -/
def memR (us : List RowK) (r : RowK) : Bool := us.any fun k => decide (k = r)
def inT (es : List TabE) (n : Str) (r : RowK) : Bool := es.any fun b => decide (b.1 = n) && memR b.2.2 r
def spInT (C : Addr) : Sp := fun vs H Q _ => ∃ (p dx x R Fi pl rp : Addr) (n : Str) (r : RowK) (es : List TabE), vs = [.ref p, .ref pl] ∧ H p = some (.ins C dx (fldsT x R Fi)) ∧ StRows H R es ∧ H pl = some (.tup [.str n, .ref rp]) ∧ RowAt H rp r ∧ Q (.bl (inT es n r)) H
theorem inT_no {es : List TabE} {n : Str} {r : RowK} (h : n ∉ es.map (·.1)) : inT es n r = false := by
  unfold inT
  rw [List.any_eq_false]
  intro b hb
  have : b.1 ≠ n := fun e => h (List.mem_map.mpr ⟨b, hb, e⟩)
  simp [this]
theorem tab_one {es : List TabE} (nd : (es.map (·.1)).Nodup) {b c : TabE} (hb : b ∈ es) (hc : c ∈ es) (e : c.1 = b.1) : c = b := by
  obtain ⟨i, hi, rfl⟩ := List.mem_iff_getElem.mp hc
  obtain ⟨j, hj, rfl⟩ := List.mem_iff_getElem.mp hb
  have hp := List.nodup_iff_pairwise_ne.mp nd
  rcases Nat.lt_trichotomy i j with l | l | l
  · exact absurd (by rw [List.getElem_map, List.getElem_map]; exact e) (List.pairwise_iff_getElem.mp hp i j (by rw [List.length_map]; exact hi) (by rw [List.length_map]; exact hj) l)
  · subst l
    rfl
  · exact absurd (by rw [List.getElem_map, List.getElem_map]; exact e.symm) (List.pairwise_iff_getElem.mp hp j i (by rw [List.length_map]; exact hj) (by rw [List.length_map]; exact hi) l)
theorem inT_at {es : List TabE} (nd : (es.map (·.1)).Nodup) {b : TabE} (hb : b ∈ es) {r : RowK} : inT es b.1 r = memR b.2.2 r := by
  unfold inT
  cases h : memR b.2.2 r with
  | true =>
    rw [List.any_eq_true]
    exact ⟨b, hb, by rw [decide_eq_true rfl, h]; rfl⟩
  | false =>
    rw [List.any_eq_false]
    intro c hc
    by_cases e : c.1 = b.1
    · rw [tab_one nd hb hc e, h]
      simp
    · rw [decide_eq_false e]
      simp
theorem bl_val {r : RowK} : ∀ us : List RowK, (valV (us.map fun k => (k, V.bl true)) r).isSome = memR us r
  | [] => rfl
  | u :: us => by
    have ih := bl_val (r := r) us
    unfold memR at ih ⊢
    rw [List.map_cons, List.any_cons]
    by_cases e : u = r
    · rw [valV_pos e, decide_eq_true e]
      rfl
    · rw [valV_neg e, ih, decide_eq_false e]
      rfl
theorem ok_inT (T : Txt K mg a d) : FnOk P w K mg base CX0 1 (a 5003) (d 5003) ["self", "place"] (spInT (a 40)) := by
  refine T.F5003.ok sc_Store___contains__ (fun vs H Q E h => ?_) (fun cdv A outer s H vs Q E hr h => ?_)
  · obtain ⟨p, dx, x, R, Fi, pl, rp, n, r, es, rfl, _⟩ := h
    rfl
  · obtain ⟨p, dx, x, R, Fi, pl, rp, n, r, es, rfl, hp, hS, hpl, hrp, q⟩ := h
    refine ⟨_, (pss_cons (ps_asg (pv 1) (pg_tup rfl (pgs_cons (pg_name (i := 2) sc_Store___contains__.nd rfl (.inl rfl)) (pgs_cons (pg_name (i := 3) sc_Store___contains__.nd rfl (.inl rfl)) pgs_nil))))
  (pss_one (ps_ret (pe_and (pe_cmp (pc_din (hu_of hr) (pv 2) (pe_fld (pv 0) rfl)) rfl) (pe_one (pe_cmp (pc_din (hu_of hr) (pv 3) (pe_dget (hu_of hr) (pe_fld (pv 0) rfl) (pv 2) (fun _ _ => rfl))) rfl)))))), ?_⟩
    refine ⟨_, rfl, pl, _, rfl, .of hpl, rfl, _, _, rfl, _, _, rfl, rfl, ?_⟩
    refine ⟨_, rfl, _, rfl, p, _, dx, _, _, rfl, hp, T.cl_40, T.no_40__rows, fldt_r _ _ _, R, _, rfl, hS.dct.get (rd_nd hS.nd) (Sum.inr n), _, rfl, ?_⟩
    by_cases hm : n ∈ es.map (·.1)
    · obtain ⟨b, hb, rfl⟩ := List.mem_map.mp hm
      rw [rd_val hS.nd hb]
      refine ifT ⟨_, rfl, _, rfl, p, _, dx, _, _, rfl, hp, T.cl_40, T.no_40__rows, fldt_r _ _ _, _, rfl, R, _, rfl, hS.dct.at_ (rd_nd hS.nd) (rd_val hS.nd hb), b.2.1, _, rfl, DGet.t (k := r) (hS.inner b hb) hrp, ?_⟩
      rw [bl_val, ← inT_at hS.nd hb]
      exact q
    · rw [rd_no hm]
      rw [inT_no hm] at q
      exact ifF q
end
/-! ### several dicts locked at once -/
theorem locks_of {t : TE} {σ : L2.St} : ∀ (ds : List (Addr × HO)) (H : Hp) (Q : VK), (ds.map (·.1)).Nodup → (∀ b ∈ ds, H b.1 = some b.2 ∧ Mut (some b.2)) →
    (∀ (H2 : Hp) (Q2 : VK), (∀ b ∈ ds, ∃ od, H2 b.1 = some (.frz od b.2)) → (∀ c, c ∉ ds.map (·.1) → H2 c = H c) → (∀ v H3, (∀ b ∈ ds, H3 b.1 = H2 b.1) → (∀ H4 : Hp, (∀ b ∈ ds, H4 b.1 = some b.2) → (∀ c, c ∉ ds.map (·.1) → H4 c = H3 c) → Q v H4) → Q2 v H3) → t σ H2 Q2) → tLockNE t ds.length σ H Q
  | [], H, Q, _, _, h => h H Q (fun b hb => (by cases hb)) (fun _ _ => rfl) fun v H3 _ q => q H3 (fun b hb => (by cases hb)) fun _ _ => rfl
  | b :: ds, H, Q, nd, hat, h => by
    rw [List.map_cons] at nd
    obtain ⟨n1, n2⟩ := List.nodup_cons.mp nd
    obtain ⟨h1, h2⟩ := hat b List.mem_cons_self
    have ne : ∀ c ∈ ds, c.1 ≠ b.1 := fun c hc e => n1 (e ▸ List.mem_map.mpr ⟨c, hc, rfl⟩)
    refine ⟨b.1, b.2, h1, h2, fun od => ?_⟩
    refine locks_of ds _ _ n2 (fun c hc => ?_) fun H2 Q2 fz fr imp => ?_
    · rw [upd_ne (ne c hc)]
      exact hat c (List.mem_cons_of_mem _ hc)
    · have hb2 : H2 b.1 = some (.frz od b.2) := by
        rw [fr b.1 n1]
        exact upd_same
      refine h H2 Q2 (fun c hc => ?_) (fun c hc => ?_) fun v H3 kp q => imp v H3 (fun c hc => kp c (List.mem_cons_of_mem _ hc)) fun H4 p4 r4 => ⟨?_, q _ (fun c hc => ?_) fun c hc => ?_⟩
      · rcases List.mem_cons.mp hc with rfl | hc
        · exact ⟨od, hb2⟩
        · exact fz c hc
      · rw [List.map_cons] at hc
        rw [fr c (fun z => hc (List.mem_cons_of_mem _ z)), upd_ne (fun z => hc (by rw [z]; exact List.mem_cons_self))]
      · rw [r4 b.1 n1, kp b List.mem_cons_self]
        exact hb2
      · rcases List.mem_cons.mp hc with rfl | hc
        · exact upd_same
        · rw [upd_ne (ne c hc)]
          exact p4 c hc
      · rw [List.map_cons] at hc
        rw [upd_ne (fun z => hc (by rw [z]; exact List.mem_cons_self))]
        exact r4 c fun z => hc (List.mem_cons_of_mem _ z)
/-- the values of a call that are values all make a row -/
theorem good_key {v : V} (h : valV' v = true) : ∃ k, v = kV k ∧ KVal k := by
  cases v with
  | int i => exact ⟨.inl i, rfl, by have := of_decide_eq_true h; show -(10 ^ 30 - 1) ≤ i ∧ i ≤ 10 ^ 30 - 1; omega⟩
  | str s => exact ⟨.inr s, rfl, by
      have h' : (decide (1 ≤ s.length ∧ s.length ≤ 8) && s.cps.toList.all fun c => decide (97 ≤ c ∧ c ≤ 122)) = true := h
      rw [Bool.and_eq_true, List.all_eq_true] at h'
      obtain ⟨h1, h2⟩ := of_decide_eq_true h'.1
      exact ⟨h1, h2, fun c hc => of_decide_eq_true (h'.2 c hc)⟩⟩
  | bl b => cases h
  | non => cases h
  | ref a => cases h
  | byt b => cases h
  | flt x => cases h
  | ty n => cases h
theorem good_rows : ∀ {xs : List V}, xs.all valV' = true → ∃ r : RowK, xs = r.map kV ∧ ∀ k ∈ r, KVal k
  | [], _ => ⟨[], rfl, fun k hk => by cases hk⟩
  | x :: xs, h => by
    rw [List.all_cons, Bool.and_eq_true] at h
    obtain ⟨k, rfl, hk⟩ := good_key h.1
    obtain ⟨r, rfl, hr⟩ := good_rows h.2
    exact ⟨k :: r, rfl, fun z hz => by
      rcases List.mem_cons.mp hz with rfl | hz
      · exact hk
      · exact hr z hz⟩
/-! ### are_values, of a thing of any kind -/
def rowB (H : Hp) (v : V) (m : Int) : Bool := match tupOf H v with
  | some xs => goodT xs m
  | none => false
def unK : V → Key
  | .int i => .inl i
  | .str s => .inr s
  | _ => .inl 0
theorem unK_kV (k : Key) : unK (kV k) = k := by cases k <;> rfl
/-- the row that a thing is, where it is one -/
def rowV (H : Hp) (v : V) : RowK := match tupOf H v with
  | some xs => xs.map unK
  | none => []
theorem rowB_ref {H : Hp} {v : V} {m : Int} (h : rowB H v m = true) : ∃ p, v = .ref p ∧ RowAt H p (rowV H v) ∧ ((rowV H v).length : Int) = m ∧ ∀ k ∈ rowV H v, KVal k := by
  unfold rowB at h
  cases e : tupOf H v with
  | none => rw [e] at h; cases h
  | some xs =>
    rw [e] at h
    have h : goodT xs m = true := h
    have er : rowV H v = xs.map unK := by unfold rowV; rw [e]
    cases v with
    | ref p =>
      have hp : H p = some (.tup xs) := by
        have e' : (match H p with | some (.tup xs) => some xs | _ => none) = some xs := e
        split at e'
        · rename_i h'
          cases e'
          exact h'
        · cases e'
      unfold goodT at h
      rw [Bool.and_eq_true] at h
      obtain ⟨r, rfl, hr⟩ := good_rows h.2
      have e2 : (r.map kV).map unK = r := by
        rw [List.map_map]
        exact (List.map_congr_left (g := id) fun k _ => unK_kV k).trans (List.map_id _)
      rw [er, e2]
      refine ⟨p, rfl, hp, ?_, hr⟩
      have := of_decide_eq_true h.1
      rw [List.length_map] at this
      exact this
    | int i => cases e
    | bl b => cases e
    | non => cases e
    | str s => cases e
    | byt b => cases e
    | flt x => cases e
    | ty n => cases e
theorem rowB_kp {H H' : Hp} {v : V} {m : Int} (h : Thg H v) (k : Kp H H') : rowB H' v m = rowB H v m := by
  unfold rowB
  rw [tupOf_kp h k]
theorem rowV_kp {H H' : Hp} {v : V} (h : Thg H v) (k : Kp H H') : rowV H' v = rowV H v := by
  unfold rowV
  rw [tupOf_kp h k]
section
variable {P : Program} {w : World} {K : PySem.W.Frag} {mg : Str → Option Value} {base : Heap} {a : Nat → Addr} {d : Nat → FuncData}
def spAreX : Sp := fun vs H Q _ => ∃ (v : V) (m : Int), vs = [v, .int m] ∧ Th1 H v ∧ ∀ H', Same H H' → Q (.bl (rowB H v m)) H'
theorem ok_areX (T : Txt K mg a d) : FnOk P w K mg base CX0 3 (a 14) (d 14) ["thing", "many"] spAreX := by
  have G13 : FnOk P w K mg base CX0 2 (a 13) (d 13) ["thing"] (spB valV') := ok_is_value T
  refine T.F14.ok sc_are_values (fun vs H Q E h => ?_) (fun cdv A outer s H vs Q E hr h => ?_)
  · obtain ⟨v, m, rfl, _⟩ := h
    rfl
  · obtain ⟨v, m, rfl, hv, q⟩ := h
    obtain ⟨n, hty, k1⟩ := hv.th.tyT (K := K)
    refine ⟨_, (pss_one (ps_ret (pe_and (pe_callB (id := "isinstance")  call_isi (by rfl) T.z_isinstance (by decide +kernel) (pa_cons (pv 0) (pa_cons (pe_bltn (v := .ty "tuple") (by rfl) T.z_tuple (by decide +kernel) rfl) pa_nil))) (pe_and (pe_cmpR op_eq (pe_callB (id := "len")  call_len_seq (by rfl) T.z_len (by decide +kernel) (pa_cons (pv 0) pa_nil)) (pv 1) (nomark _)) (pe_one (pe_callB (id := "all")  (cr_all rfl) (by rfl) T.z_all (by decide +kernel) (pa_cons (pe_lc (own := [("part", 2)]) rfl sc_are_values.nd (pi_tup (pv 0)) (blkOk_by (N := ["thing", "many", "part"]) (sc := defScope s_are_values) (by decide +kernel)) (fun _ _ _ _ _ => pg_name (i := 2) sc_are_values.nd rfl (.inl rfl)) (fun _ _ _ _ _ => pts_nil) (fun _ _ _ _ _ => (pe_call G13 (hr.mono (by decide)) (by rfl) T.g13 T.F13.kp T.b13 .nil pass0 (pa_cons (pv 2) pa_nil)))) pa_nil))))))), ?_⟩
    refine ⟨_, rfl, _, _, _, _, _, rfl, .ty _, hty, kit_ty k1, _, rfl, ?_⟩
    unfold rowB at q
    cases et : tupOf H v with
    | none =>
      rw [et] at q
      exact ifF (q H (Same.refl H))
    | some xs =>
      rw [et] at q
      have q : ∀ H', Same H H' → Q (.bl (goodT xs m)) H' := q
      obtain ⟨hl, hx⟩ := hv.it xs et
      obtain ⟨p, rfl, hp⟩ := tupOf_some et
      refine ifT ?_
      refine ⟨_, rfl, _, _, rfl, .inr (.of hp), _, rfl, rfl, _, rfl, ?_⟩
      unfold goodT at q
      refine (fun (A B : Prop) (h1 : (xs.length : Int) = m → A) (h2 : (xs.length : Int) ≠ m → B) => (show if decide (V.int (xs.length : Int) = V.int m) = true then A else B from ite_eqI h1 h2)) _ _ (fun e => ?_) (fun ne => ?_)
      · rw [decide_eq_true e, Bool.true_and] at q
        refine ⟨_, rfl, p, rfl, ⟨_, .of hp⟩, fun D hD => ?_⟩
        refine lc_tup (K := K) (a := p) (xs := xs) (fun i H' => H' D = some (.lst (((xs.take i).map valV').map V.bl)) ∧ Same H H') ⟨upd_same, same_upd hD⟩ (fun i H' _ h => .of (h.2 _ _ hp)) (fun i x H' hx' h => ?_) (fun H' h => ?_)
        · have li : i < xs.length := (List.getElem?_eq_some_iff.mp hx').1
          refine ⟨rfl, _, rfl, x, rfl, (hx x (List.mem_of_getElem? hx')).same h.2, fun H2 s2 => ⟨_, s2 _ _ h.1, ?_, ?_, fun b o e => ?_⟩⟩
          · rw [List.length_map, List.length_map, List.length_take]
            exact small1000 (by omega)
          · rw [map_take hx', List.map_append]
            exact upd_same
          · rw [upd_ne (ne_of_none e hD)]
            exact s2 _ _ (h.2 b o e)
        · obtain ⟨h1, h2⟩ := h
          rw [List.take_length] at h1
          refine ⟨D, _, rfl, .of h1, ?_⟩
          have ea : ((xs.map valV').all id) = xs.all valV' := by rw [List.all_map]; rfl
          rw [ea]
          exact q H' h2
      · rw [decide_eq_false ne, Bool.false_and] at q
        exact q H (Same.refl H)
end
/-! ### _check_table, of rows of any kind -/
def projs (H : Hp) (cs : List Int) (xs : List V) : List RowK := xs.map fun v => projR cs (rowV H v)
def TabBad (H : Hp) (w : Int) (cs : List Int) (xs : List V) (i : Nat) : Prop := (∀ v ∈ xs.take i, rowB H v w = true) ∧ (projs H cs (xs.take i)).Nodup ∧ ∃ v, xs[i]? = some v ∧ (rowB H v w = false ∨ (rowB H v w = true ∧ projR cs (rowV H v) ∈ projs H cs (xs.take i)))
def TabGood (H : Hp) (w : Int) (cs : List Int) (xs : List V) : Prop := (∀ v ∈ xs, rowB H v w = true) ∧ (projs H cs xs).Nodup
theorem take_succ_at {α : Type} {xs : List α} {i : Nat} {x : α} (h : xs[i]? = some x) : xs.take (i + 1) = xs.take i ++ [x] := by
  rw [List.take_add_one, h]
  rfl
theorem projs_snoc {H : Hp} {cs : List Int} {xs : List V} {i : Nat} {v : V} (h : xs[i]? = some v) : projs H cs (xs.take (i + 1)) = projs H cs (xs.take i) ++ [projR cs (rowV H v)] := by
  unfold projs
  rw [take_succ_at h, List.map_append]
  rfl
theorem projs_kp {H H' : Hp} {cs : List Int} {xs : List V} (h : ∀ v ∈ xs, Thg H v) (k : Kp H H') : projs H' cs xs = projs H cs xs := by
  unfold projs
  exact List.map_congr_left fun v hv => by rw [rowV_kp (h v hv) k]
section
variable {P : Program} {w : World} {K : PySem.W.Frag} {mg : Str → Option Value} {base : Heap} {a : Nat → Addr} {d : Nat → FuncData}
theorem ok_isinit (T : Txt K mg a d) : FnOk P w K mg base CX0 1 (a 1700) (d 1700) ["self", "table", "at"] (spI2 (a 7) "table" "at") := by
  refine T.F1700.ok sc_InvalidStore___init__ (fun vs H Q E h => ?_) (fun cdv A outer s H vs Q E hr h => ?_)
  · obtain ⟨x, u, v, rfl, _⟩ := h
    rfl
  · obtain ⟨x, u, v, rfl, hx, q⟩ := h
    refine ⟨_, (pss_cons (ps_ost (pv 0) (pv 1))
  (pss_one (ps_ost (pv 0) (pv 2)))), _, rfl, _, rfl, x, _, rfl, T.x_7, T.no_7_table, .inl ⟨hx, fun dx hdx ne => ?_⟩⟩
    have e1 : upd (upd H dx (exd dx [(("table" : Str), u)])) x (exo x (a 7) (some dx)) dx = some (exd dx [(("table" : Str), u)]) := by rw [upd_ne ne]; exact upd_same
    refine ⟨_, rfl, _, rfl, x, _, rfl, T.x_7, T.no_7_at, .inr ⟨dx, _, upd_same, e1, by show 1 ≤ 900; decide, q dx _ hdx ne ?_ upd_same fun b o nb nd e => ?_⟩⟩
    · rw [upd_ne ne.symm]
      exact upd_same
    · rw [upd_ne nd, upd_ne nb, upd_ne nd]
      exact e
def spChkTabX (C CI : Addr) : Sp := fun vs H Q E => ∃ (x l : Addr) (n : Str) (ts : List (Str × Int)) (ks : List KeyE) (ss : List SvE) (mt ms : Nat) (xs : List V), vs = [.ref x, .str n, .ref l] ∧ SchAt C x H ts ks ss mt ms ∧ H l = some (.lst xs) ∧ xs.length ≤ 500 ∧ (∀ v ∈ xs, Th1 H v) ∧
  (n ∉ ts.map (·.1) → ∀ H', Same H H' → Er2 CI "table" "at" (.str n) .non H' E) ∧ (∀ w, (n, w) ∈ ts → (∀ i, TabBad H w (colsOf w (markOf ks n)) xs i → ∀ H', Same H H' → Er2 CI "table" "at" (.str n) (.int (i : Nat)) H' E) ∧ (TabGood H w (colsOf w (markOf ks n)) xs → ∀ H', Same H H' → Q .non H'))
theorem ok_check_tableX (T : Txt K mg a d) : FnOk P w K mg base (L2.CX P w) 5 (a 38) (d 38) ["schema", "table", "rows"] (spChkTabX (a 34) (a 7)) := by
  have G4405 : FnOk P w K mg base CX0 1 (a 4405) (d 4405) ["self"] (spNms (a 34) fun ts _ => ts.map (·.1)) := ok_table_names T
  have G4408 : FnOk P w K mg base (L2.CX P w) 4 (a 4408) (d 4408) ["self", "table"] (spAsk (a 34) (a 3) (fun ts _ _ n => valV (tabK ts) (Sum.inr n)) (fun ts _ _ n => valV (tabK ts) (Sum.inr n))) := ok_width_of T
  have G4409 : FnOk P w K mg base (L2.CX P w) 4 (a 4409) (d 4409) ["self", "table"] (spAsk (a 34) (a 3) (fun ts _ _ n => valV (tabK ts) (Sum.inr n)) (fun _ ks _ n => some ((valV (keyK ks) (Sum.inr n)).getD .non))) := ok_key_of T
  have G14 : FnOk P w K mg base CX0 3 (a 14) (d 14) ["thing", "many"] spAreX := ok_areX T
  have G15 : FnOk P w K mg base CX0 1 (a 15) (d 15) ["row", "columns"] spColsOf := ok_columns_of T
  have G1700 : FnOk P w K mg base CX0 1 (a 1700) (d 1700) ["self", "table", "at"] (spI2 (a 7) "table" "at") := ok_isinit T
  refine T.F38.okX sc__check_table (fun vs H Q E h => ?_) (fun cdv A outer s H vs Q E hr h => ?_)
  · obtain ⟨x, l, n, ts, ks, ss, mt, ms, xs, rfl, _⟩ := h
    rfl
  · obtain ⟨x, l, n, ts, ks, ss, mt, ms, xs, rfl, hx, hl, hlen, hth, q1, q2⟩ := h
    refine ⟨_, (pss_cons (ps_if (pt_cmpR op_notIn_seq (pv 1) (pe_meth0 (pv 0) T.cl_34 T.m_4405 G4405 (hr.mono (by decide)) T.b4405 .nil pass0) (by rfl))
    (pss_one (ps_raise rfl (takes_of rfl rfl rfl rfl) (pmk_oex T.x_7 T.in_7 T.ti_7 G1700 (hr.mono (by decide)) T.b1700 .nil pass0 (by rfl) T.cg_7 (pa_cons (pv 1) (pa_cons pe_non pa_nil)))))
    pss_nil)
  (pss_cons (ps_set (i := 3) sc__check_table.nd rfl (.inl rfl) (pe_meth (pv 0) T.cl_34 T.m_4408 G4408 (hr.mono (by decide)) T.b4408 .nil (passes_call (takes_of rfl rfl rfl rfl) (fun _ _ _ _ h => h)) (pa_cons (pv 1) pa_nil)))
  (pss_cons (ps_set (i := 4) sc__check_table.nd rfl (.inl rfl) (pe_meth (pv 0) T.cl_34 T.m_4409 G4409 (hr.mono (by decide)) T.b4409 .nil (passes_call (takes_of rfl rfl rfl rfl) (fun _ _ _ _ h => h)) (pa_cons (pv 1) pa_nil)))
  (Evl.pss_cut (ps_set (i := 5) sc__check_table.nd rfl (.inl rfl) (pe_ifExp (pt_cmpR op_isN (pv 4) pe_non (nomark _)) (pe_tupRg rfl (by rfl) T.z_tuple (prg_1 (by rfl) T.z_range (pv 3))) (pv 4)))
  (pss_cons (ps_set (i := 6) sc__check_table.nd rfl (.inl rfl) pe_dnewT)
  (pss_one (ps_for (passes_of rfl) rfl (pi_enum (by rfl) T.z_enumerate (pa_cons (pv 2) pa_nil)) (pg_tup rfl (pgs_cons (pg_name (i := 7) sc__check_table.nd rfl (.inl rfl)) (pgs_cons (pg_name (i := 8) sc__check_table.nd rfl (.inl rfl)) pgs_nil)))
    (pss_cons (ps_if (PW.pt (pw_or (pt_not (pt_val (pe_call G14 (hr.mono (by decide)) (by rfl) T.g14 T.F14.kp T.b14 .nil pass0 (pa_cons (pv 8) (pa_cons (pv 3) pa_nil))))) (pw_or1 (pt_cmp (pc_din (hu_of hr) (pe_call G15 (hr.mono (by decide)) (by rfl) T.g15 T.F15.kp T.b15 .nil pass0 (pa_cons (pv 8) (pa_cons (pv 5) pa_nil))) (pv 6))))))
        (pss_one (ps_raise rfl (takes_of rfl rfl rfl rfl) (pmk_oex T.x_7 T.in_7 T.ti_7 G1700 (hr.mono (by decide)) T.b1700 .nil pass0 (by rfl) T.cg_7 (pa_cons (pv 1) (pa_cons (pv 7) pa_nil)))))
        pss_nil)
      (pss_one (ps_dput (hu_of hr) (pv 6) (pe_call G15 (hr.mono (by decide)) (by rfl) T.g15 T.F15.kp T.b15 .nil pass0 (pa_cons (pv 8) (pa_cons (pv 5) pa_nil))) pe_bl rfl)))))))))), ?_⟩
    obtain ⟨dx, d1, d2, d3, o⟩ := id hx
    refine ⟨_, rfl, _, rfl, x, dx, _, rfl, o.ob, flds_no _ _ _ (by decide +kernel) (by decide +kernel) (by decide +kernel), x, ts, ks, ss, mt, ms, rfl, hx, fun l1 ys H1 f1 e1 p1 so1 s1 => ?_⟩
    refine ⟨l1, ys.map V.str, rfl, .inl (.of e1), rfl, (by rw [List.all_map]; exact List.all_eq_true.mpr fun _ _ => rfl), _, rfl, ?_⟩
    show if (!inV (.str n) (ys.map V.str)) = true then _ else _
    rw [inV_strs]
    by_cases hm : n ∈ ts.map (·.1)
    · obtain ⟨y0, hy0, ey0⟩ := List.mem_map.mp hm
      obtain ⟨wd, hmem⟩ : ∃ wd, (n, wd) ∈ ts := ⟨y0.2, by rw [← ey0]; exact hy0⟩
      obtain ⟨qb, qg⟩ := q2 wd hmem
      rw [decide_eq_true (p1.mem_iff.mpr hm)]
      refine ifF ?_
      have hval : valV (tabK ts) (Sum.inr n) = some (.int wd) := val_nodup (tab_nd o.hT) (Sum.inr n, .int wd) (List.mem_map.mpr ⟨(n, wd), hmem, rfl⟩)
      have hw := o.hT.wd _ hmem
      have hx1 := hx.same s1
      have o1 := o.same s1
      refine ⟨_, rfl, x, dx, _, rfl, o1.ob, flds_no _ _ _ (by decide +kernel) (by decide +kernel) (by decide +kernel), _, rfl, x, n, ts, ks, ss, mt, ms, rfl, hx1, fun v hv => ⟨_, hval, ?_⟩, fun e => by rw [show (fun ts _ _ n => valV (tabK ts) (Sum.inr n) : List (Str × Int) → List KeyE → List SvE → Str → Option V) ts ks ss n = some (.int wd) from hval] at e; cases e⟩
      refine ⟨_, rfl, x, dx, _, rfl, o1.ob, flds_no _ _ _ (by decide +kernel) (by decide +kernel) (by decide +kernel), _, rfl, x, n, ts, ks, ss, mt, ms, rfl, hx1, fun v hv => ⟨_, rfl, ?_⟩, fun e => by rw [show (fun ts _ _ n => valV (tabK ts) (Sum.inr n) : List (Str × Int) → List KeyE → List SvE → Str → Option V) ts ks ss n = some (.int wd) from hval] at e; cases e⟩
      rw [mark_val]
      have mk_in := colsOf_in (w := wd) (mk := markOf ks n) fun cs e => (mark_at o.hK o.hT.nm.nd hmem e).2.1
      have mk_le : (colsOf wd (markOf ks n)).length ≤ 100 := by
        cases e : markOf ks n with
        | none =>
          show (colsW wd).length ≤ 100
          unfold colsW
          rw [List.length_map, List.length_range]
          omega
        | some cs =>
          have := (mark_at o.hK o.hT.nm.nd hmem e).2.2.2
          show cs.length ≤ 100
          omega
      refine ⟨fun σ H' => ∃ c, σ = [some (.ref x), some (.str n), some (.ref l), some (.int wd), some (markV (markOf ks n) (markA ks n)), some (.ref c), none, none, none] ∧ H' c = some (.tup ((colsOf wd (markOf ks n)).map V.int)) ∧ Same H H', ?_, ?_⟩
      · cases e : markOf ks n with
        | none =>
          refine ⟨_, rfl, rfl, _, rfl, ite_d (fun _ => ?_) (fun z => absurd rfl z)⟩
          refine ⟨_, rfl, wd, rfl, RgOk.of_le (by omega) (by omega) (by omega) (by omega), fun c hc => ⟨c, rfl, ?_, s1.trans (same_upd hc)⟩⟩
          rw [rgV_cols]
          exact upd_same
        | some cs =>
          refine ⟨_, rfl, rfl, _, rfl, ite_d (fun z => nomatch z) (fun _ => ?_)⟩
          exact ⟨_, rfl, _, rfl, s1 _ _ (mark_at o.hK o.hT.nm.nd hmem e).1, s1⟩
      rintro σ H2 ⟨c, rfl, hc, s2⟩
      generalize colsOf wd (markOf ks n) = cs at mk_in mk_le hc qb qg
      intro S hS
      have s3 := s2.trans (same_upd (o := .dT []) hS)
      refine ⟨_, rfl, l, xs, rfl, .of (s3 _ _ hl), ?_⟩
      refine for_it (walk_enum (K := K) (a := l) (xs := xs)) (fun i σ H' => ∃ y7 y8 : Option V, σ = [some (.ref x), some (.str n), some (.ref l), some (.int wd), some (markV (markOf ks n) (markA ks n)), some (.ref c), some (.ref S), y7, y8] ∧ (∀ v ∈ xs.take i, rowB H v wd = true) ∧ (projs H cs (xs.take i)).Nodup ∧ H' S = some (.dT ((projs H cs (xs.take i)).map fun k => (k, V.bl true))) ∧ Same H2 H') ⟨none, none, rfl, (fun v hv => by cases hv), List.nodup_nil, upd_same, same_upd hS⟩ (fun i σ H' _ hp => ?_) (fun i v σ H' H'' hi hp hy => ?_) (fun σ H' hp => ?_)
      · obtain ⟨y7, y8, rfl, _, _, _, s⟩ := hp
        exact .of (s _ _ (s2 _ _ hl))
      · obtain ⟨y7, y8, rfl, g1, g2, g3, s⟩ := hp
        obtain ⟨T', u1, u2, rfl, hT', rfl, hu1, hu2⟩ := hy
        cases hu1
        have hxm := List.mem_of_getElem? hu2
        have tx := hth u2 hxm
        have sT := same_upd (o := .tup [.int ((i : Nat) : Int), u2]) hT'
        have s4 := s.trans sT
        have sH4 := s2.trans s4
        have e4 := sT _ _ g3
        have tx4 := tx.kp (Kp.same sH4)
        have rb4 : ∀ m, rowB (upd H' T' (.tup [.int ((i : Nat) : Int), u2])) u2 m = rowB H u2 m := fun m => rowB_kp tx.th (Kp.same sH4)
        refine ⟨T', _, rfl, .of upd_same, rfl, _, _, rfl, _, _, rfl, rfl, ?_⟩
        refine ⟨_, rfl, _, rfl, u2, wd, rfl, tx4, fun H5 s5 => ⟨_, rfl, ?_⟩⟩
        rw [rb4]
        have sH5 := sH4.trans s5
        cases hrb : rowB H u2 wd with
        | false => exact ifT ⟨_, rfl, _, rfl, er2_raise (qb i ⟨g1, g2, u2, hu2, .inl hrb⟩ H5 sH5)⟩
        | true =>
          refine ifF ?_
          obtain ⟨p, rfl, hp, hpl, hpk⟩ := rowB_ref hrb
          have hp5 := sH5 _ _ hp
          have c5 := s5 _ _ (s4 _ _ hc)
          refine ⟨_, rfl, _, rfl, p, c, rowV H (.ref p), cs, rfl, hp5, c5, fun z hz => by rw [hpl]; exact mk_in z hz, mk_le, fun t6 H6 ht6 s6 => ?_⟩
          have e6 := s6 _ _ (s5 _ _ e4)
          refine ⟨_, rfl, S, _, rfl, DGet.t (k := projR cs (rowV H (.ref p))) e6 ht6, _, rfl, ?_⟩
          by_cases hin : projR cs (rowV H (.ref p)) ∈ projs H cs (xs.take i)
          · have hv : (valV ((projs H cs (xs.take i)).map fun k => (k, V.bl true)) (projR cs (rowV H (.ref p)))).isSome = true := by rw [bl_val]; exact hasR_iff.mpr hin
            rw [hv]
            exact ifT ⟨_, rfl, _, rfl, er2_raise (qb i ⟨g1, g2, _, hu2, .inr ⟨hrb, hin⟩⟩ H6 (sH5.trans s6))⟩
          · have no : valV ((projs H cs (xs.take i)).map fun k => (k, V.bl true)) (projR cs (rowV H (.ref p))) = none := valV_no (by
              rw [List.map_map]
              exact (show ¬ _ ∈ (projs H cs (xs.take i)).map id by rw [List.map_id]; exact hin))
            rw [no]
            refine ifF ?_
            refine ⟨_, rfl, _, rfl, _, rfl, p, c, rowV H (.ref p), cs, rfl, s6 _ _ hp5, s6 _ _ c5, fun z hz => by rw [hpl]; exact mk_in z hz, mk_le, fun t7 H7 ht7 s7 => ?_⟩
            refine ⟨S, _, rfl, DPut.t (k := projR cs (rowV H (.ref p))) (s7 _ _ e6) ht7 ?_, _, _, rfl, fun v hv => ?_, ?_, ?_, fun d o e => ?_⟩
            · unfold projs
              rw [List.length_map, List.length_map, List.length_take]
              exact small1000 (by omega)
            · rw [take_succ_at hu2] at hv
              rcases List.mem_append.mp hv with h | h
              · exact g1 v h
              · rw [List.mem_singleton.mp h]
                exact hrb
            · rw [projs_snoc hu2]
              refine List.nodup_append.mpr ⟨g2, List.nodup_cons.mpr ⟨by simp, List.nodup_nil⟩, fun z hz y hy e => ?_⟩
              rw [List.mem_singleton.mp hy] at e
              exact hin (e ▸ hz)
            · rw [putK_new _ no, projs_snoc hu2, List.map_append]
              exact upd_same
            · rw [upd_ne (ne_of_none e hS)]
              exact s7 _ _ (s6 _ _ (s5 _ _ (s4 _ _ e)))
      · obtain ⟨y7, y8, rfl, g1, g2, _, s⟩ := hp
        rw [List.take_length] at g1 g2
        exact qg ⟨g1, g2⟩ H' (s2.trans s)
    · rw [decide_eq_false (fun z => hm (p1.mem_iff.mp z))]
      exact ifT ⟨_, rfl, er2_raise (q1 hm H1 s1)⟩
end
/-! ### the rows that are handed in -/
def rowsOf : List RwE → Str → List RowK
  | [], _ => []
  | b :: es, n => if b.name = n then b.rows.map (·.2) else rowsOf es n
theorem rowsOf_at : ∀ {es : List RwE}, (es.map (·.name)).Nodup → ∀ {b : RwE}, b ∈ es → rowsOf es b.name = b.rows.map (·.2)
  | [], _, _, h => by cases h
  | c :: es, nd, b, h => by
    rw [List.map_cons] at nd
    obtain ⟨n1, n2⟩ := List.nodup_cons.mp nd
    unfold rowsOf
    rcases List.mem_cons.mp h with rfl | h
    · rw [if_pos rfl]
    · have ne : ¬ c.name = b.name := fun e => n1 (List.mem_map.mpr ⟨b, h, e.symm⟩)
      rw [if_neg ne]
      exact rowsOf_at n2 h
theorem rowsOf_no : ∀ {es : List RwE} {n : Str}, n ∉ es.map (·.name) → rowsOf es n = []
  | [], _, _ => rfl
  | c :: es, n, h => by
    rw [List.map_cons] at h
    unfold rowsOf
    have ne : ¬ c.name = n := fun e => h (List.mem_cons.mpr (.inl e.symm))
    rw [if_neg ne]
    exact rowsOf_no fun z => h (List.mem_cons_of_mem _ z)
theorem le_sum {x : Nat} : ∀ {l : List Nat}, x ∈ l → x ≤ l.sum
  | [], h => by cases h
  | y :: l, h => by
    rw [List.sum_cons]
    rcases List.mem_cons.mp h with rfl | h
    · exact Nat.le_add_right _ _
    · exact Nat.le_trans (le_sum h) (Nat.le_add_left _ _)
theorem sum_cast {α : Type} {f : α → Nat} : ∀ l : List α, (l.map fun b => (f b : Int)).sum = (((l.map f).sum : Nat) : Int)
  | [] => rfl
  | b :: l => by rw [List.map_cons, List.map_cons, List.sum_cons, List.sum_cons, sum_cast l]; omega
theorem rw_nd {es : List RwE} (h : (es.map (·.name)).Nodup) : ((rwK es).map (·.1)).Nodup := by
  rw [keys_rw]
  exact inr_nd h
theorem rw_val {es : List RwE} (h : (es.map (·.name)).Nodup) {b : RwE} (hb : b ∈ es) : valV (rwK es) (Sum.inr b.name) = some (.ref b.at_) := val_nodup (rw_nd h) (Sum.inr b.name, V.ref b.at_) (List.mem_map.mpr ⟨b, hb, rfl⟩)
theorem rw_no {es : List RwE} {n : Str} (h : n ∉ es.map (·.name)) : valV (rwK es) (Sum.inr n) = none := valV_no (by rw [keys_rw]; exact inr_no h)
/-- a walk over a dict that is locked, and what stands behind it -/
theorem lock_same {H H' : Hp} {d : Addr} {u : HO} {od : Obj} (h : H d = some u) (s : Same (upd H d (.frz od u)) H') : Same H (upd H' d u) := fun b o e => by
  by_cases n : b = d
  · subst n
    rw [h] at e
    cases e
    exact upd_same
  · rw [upd_ne n]
    exact s b o (by rw [upd_ne n]; exact e)
theorem lock_rows {H : Hp} {d : Addr} {u : HO} {od : Obj} {L : List (Addr × RowK)} (h : H d = some u) (nt : ∀ xs, u ≠ .tup xs) (hL : RowsAt H L) : RowsAt (upd H d (.frz od u)) L := fun b hb => by
  have h1 : H b.1 = some (.tup (b.2.map kV)) := hL b hb
  have ne : b.1 ≠ d := fun e => by
    rw [e, h] at h1
    exact nt _ (Option.some.inj h1)
  show upd H d _ b.1 = _
  rw [upd_ne ne]
  exact h1
theorem lock_at {d : Addr} {od : Obj} {kvs : List (Key × V)} {k : Key} {v : V} (e : valV kvs k = some v) {H' : Hp} (h : H' d = some (.frz od (.dK kvs))) : DGet H' d (kV k) (some v) := .inl ⟨kvs, k, .inr ⟨od, h⟩, rfl, e.symm⟩
theorem srt_nd {L : List (Addr × RowK)} (h : L.Pairwise fun a b => rowLt a.2 b.2 = true) : (L.map (·.2)).Nodup := by
  refine List.pairwise_map.mpr (h.imp fun {a b} hab e => ?_)
  rw [e, rowLt_irrefl] at hab
  cases hab
theorem Groups.oth {H : Hp} {D q : Addr} {cs : List Int} {L : List (Addr × RowK)} {gs : List Grp} {u o : HO} (g : Groups H D cs L gs) (hq : H q = some u) (h1 : ∀ kvs, u ≠ .dT kvs) (h2 : ∀ xs, u ≠ .lst xs) : Groups (upd H q o) D cs L gs := by
  refine ⟨?_, fun x hx => ?_, g.keys, g.ats, g.val, g.all, g.le⟩
  · have n : D ≠ q := fun e => by
      have := g.dic
      rw [e, hq] at this
      exact h1 _ (Option.some.inj this)
    rw [upd_ne n]
    exact g.dic
  · have n : x.2.1 ≠ q := fun e => by
      have := g.lst x hx
      rw [e, hq] at this
      exact h2 _ (Option.some.inj this)
    rw [upd_ne n]
    exact g.lst x hx
theorem FitOk.oth {G : Hp} {q : Addr} {kvs : List (Key × V)} {o : HO} {ss : List SvE} {es : List TabE} {f : FitE} (h : FitOk G ss es f) (hq : G q = some (.dK kvs)) : FitOk (upd G q o) ss es f :=
  ⟨h.grp.oth hq (by intro _ z; cases z) (by intro _ z; cases z), fun y hy => upd_tup hq (by intro _ z; cases z) _ _ (h.rows y hy), h.svc⟩
section
variable {X : Cx}
/-- a dict comprehension over any walk -/
theorem dc_it {J : It} {n : Nat} {Gd : Hp → Prop} {Y : Nat → Hp → V → Hp → Prop} (w : Walk J n Gd Y) {g : TG} {tt : TT} {tk tv : TE} {vs : List Nat} {σ : L2.St} {H1 : Hp} {D : Addr} {Qd : Hp → Prop} (Pv : Nat → Hp → Prop) (h0 : Pv 0 (upd H1 D (.dK []))) (hG : ∀ i H, i ≤ n → Pv i H → Gd H)
    (hs : ∀ i x H H', i < n → Pv i H → Y i H x H' → g x (wipe σ vs) H' fun σ2 H2 => wipe σ2 vs = wipe σ vs ∧ tt σ2 H2 fun b H3 =>
      if b = true then tk σ2 H3 fun y H4 => tv σ2 H4 fun z H5 => ∃ kvs k, y = kV k ∧ H5 D = some (.dK kvs) ∧ kvs.length < sizeLine ∧ Pv (i + 1) (upd H5 D (.dK (putK kvs k z))) else Pv (i + 1) H3) (hd : ∀ H, Pv n H → Qd H) :
    ∃ W : Nat → Nat → Hp → Prop, (∃ m, W 0 m (upd H1 D (.dK []))) ∧ ∀ i m H, W i m H →
      (J.stop i H ∧ Qd H) ∨ (J.go i H ∧ ∃ Nx : Hp → Prop, (∀ H', Nx H' → ∃ m', m' < m ∧ W (i + 1) m' H') ∧ ∀ x H', J.yld i H x H' → g x (wipe σ vs) H' fun σ2 H2 => wipe σ2 vs = wipe σ vs ∧ tt σ2 H2 fun b H3 =>
        if b = true then tk σ2 H3 fun y H4 => tv σ2 H4 fun z H5 => ∃ kvs k, y = kV k ∧ H5 D = some (.dK kvs) ∧ kvs.length < sizeLine ∧ Nx (upd H5 D (.dK (putK kvs k z))) else Nx H3) := by
  refine ⟨fun i m H => m = n - i ∧ i ≤ n ∧ Pv i H, ⟨n, by simp, Nat.zero_le _, h0⟩, ?_⟩
  rintro i m H ⟨rfl, hi, p⟩
  have q := hG i H hi p
  by_cases hlt : i < n
  · refine .inr ⟨w.goes i H hlt q, Pv (i + 1), fun H' p' => ⟨n - (i + 1), by omega, rfl, hlt, p'⟩, fun x H' y => hs i x H H' hlt p (w.yields i H x H' hlt q y)⟩
  · have e : i = n := by omega
    subst e
    exact .inl ⟨w.stops H q, hd H p⟩
end
section
variable {P : Program} {w : World} {K : PySem.W.Frag} {mg : Str → Option Value} {base : Heap} {a : Nat → Addr} {d : Nat → FuncData}
end
/-! ### a Schema and a Store made, with the part of the heap that each keeps -/
theorem mk_schemaG {C t k v : Addr} {H : Hp} {ts : List (Str × Int)} {ks : List KeyE} {ss : List SvE} {m n : Nat} {Q' : Hp → Prop} {E : XK} {x dx : Addr} (ht : DctAt H t (tabK ts)) (hk : DctAt H k (keyK ks)) (hv : DctAt H v (svK ss)) (hT : Tabs ts m 4) (hK : Keys H ts ks) (hS : Svcs H ts ks ss n) (m1 : 1 ≤ m) (m5 : m ≤ 5) (n1 : 1 ≤ n) (n8 : n ≤ 8)
    (fx : H x = none) (fdx : H dx = none) (ndx : dx ≠ x) (q : ∀ Gs H' : Hp, SchAt C x Gs ts ks ss m n → Same Gs H' → Same H H' → (∀ b o, H b = some o → (∀ xs, o ≠ .tup xs) → Gs b = none) → Q' H') :
    spSInit C (.ref x :: ([.ref t, .ref k, .ref v] ++ [])) (upd (upd H dx (.own x)) x (.ins C dx [])) (fun u H2 => u = .non ∧ Q' H2) E := by
  have s1 := same_upd (o := .own x) fdx
  have f1 : upd H dx (.own x) x = none := by rw [upd_ne ndx.symm]; exact fx
  have s := s1.trans (same_upd (o := .ins C dx []) f1)
  refine ⟨x, dx, t, k, v, ts, ks, ss, m, n, rfl, upd_same, ht.same s, hk.same s, hv.same s, hT, hK.mono fun _ _ e => s _ _ e, hS.mono fun _ _ e => s _ _ e, m1, m5, n1, n8, fun Hz e1 e2 e3 Oz g1 g2 g3 keep => ⟨rfl, ?_⟩⟩
  have sz : Same H Hz := fun b u e => keep b u (ne_of_none e fx) (s _ _ e)
  have upt : ∀ b xs, Hz b = some (.tup xs) → hlet H Hz (fun _ => none) b = some (.tup xs) := fun b xs e => by
    cases h : H b with
    | none => rw [hlet_new h]; exact e
    | some o =>
      have h1 := sz _ _ h
      rw [e] at h1
      cases h1
      rw [hlet_tup h]
      exact e
  have dct : ∀ {d : Addr} {kvs : List (Key × V)}, H d = none → DctAt Hz d kvs → DctAt (hlet H Hz fun _ => none) d kvs := fun {d kvs} h ⟨kd, e, p⟩ => ⟨kd, by rw [hlet_new h]; exact e, p⟩
  exact q (hlet H Hz fun _ => none) Hz ⟨dx, e1, e2, e3, by rw [hlet_new fx]; exact Oz.ob, dct (s.free g1) Oz.tb, dct (s.free g2) Oz.ky, dct (s.free g3) Oz.sv, hT, Oz.hK.mono upt, Oz.hS.mono upt, m5, n8⟩ (hlet_same _ _ _) sz fun b o h nt => hlet_no h nt rfl
/-- all but some lists stand -/
def Lk (S : List Addr) (H H' : Hp) : Prop := (∀ q ∈ S, H q = none ∨ ∃ xs, H q = some (.lst xs)) ∧ ∀ b o, b ∉ S → H b = some o → H' b = some o
theorem Lk.keep {S : List Addr} {H H' : Hp} {b : Addr} {o : HO} (h : Lk S H H') (e : H b = some o) (nl : ∀ xs, o ≠ .lst xs) : H' b = some o := h.2 b o (fun hm => by
  rcases h.1 b hm with z | ⟨xs, z⟩
  · rw [z] at e
    cases e
  · rw [z] at e
    exact nl xs (Option.some.inj e).symm) e
theorem Lk.of_same {S : List Addr} {H H' : Hp} (h : ∀ q ∈ S, H q = none ∨ ∃ xs, H q = some (.lst xs)) (s : Same H H') : Lk S H H' := ⟨h, fun b o _ e => s b o e⟩
theorem Lk.same {S : List Addr} {H H' H2 : Hp} (h : Lk S H H') (s : Same H' H2) : Lk S H H2 := ⟨h.1, fun b o n e => s b o (h.2 b o n e)⟩
theorem Lk.rows {S : List Addr} {H H' : Hp} {L : List (Addr × RowK)} (h : Lk S H H') (hL : RowsAt H L) : RowsAt H' L := fun b hb => h.keep (hL b hb) (by intro _ z; cases z)
theorem Lk.rw {S : List Addr} {H H' : Hp} {b : RwE} (h : Lk S H H') (n : b.at_ ∉ S) (hb : RwAt H b) : RwAt H' b := ⟨h.2 _ _ n hb.lst, h.rows hb.rows⟩
theorem Lk.sub {S : List Addr} {G H H' : Hp} (h : Lk S H H') (g : ∀ q ∈ S, G q = none) (s : Same G H) : Same G H' := fun b o e => h.2 b o (fun hm => by rw [g b hm] at e; cases e) (s b o e)
theorem Lk.pool {S : List Addr} {H H' : Hp} {p : Addr} (h : Lk S H H') (n : p ∉ S) (hP : PoolAt H p) : PoolAt H' p := by
  obtain ⟨p0, p1, p2, p3, r, e, z⟩ := hP
  exact ⟨p0, p1, p2, p3, r, h.2 p _ n e, z⟩
theorem Lk.of_chg {H H' : Hp} {p : Addr} (hP : PoolAt H p) (c : Chg p H H') : Lk [p] H H' := ⟨fun q hq => by
  obtain ⟨p0, p1, p2, p3, r, e, _⟩ := hP
  rw [List.mem_singleton.mp hq]
  exact .inr ⟨_, e⟩, fun b o n e => c.2 b o (fun z => n (by rw [z]; exact List.mem_singleton.mpr rfl)) e⟩
theorem rising_of : ∀ (l : List Str) (p : Str), (p :: l).Pairwise (fun a b => a.cps.toList ≤ b.cps.toList) → PyProof.Rows.risingS p l = true
  | [], _, _ => rfl
  | x :: r, p, h => by
    obtain ⟨h1, h2⟩ := List.pairwise_cons.mp h
    show (!PySem.Spec.ltCps x.cps.toList p.cps.toList && PyProof.Rows.risingS x r) = true
    rw [rising_of r x h2, Bool.and_true, PyProof.Rows.ltCps_eq]
    have := h1 x List.mem_cons_self
    have h3 : ¬ x.cps.toList < p.cps.toList := this
    simp [h3]
theorem sorted_of {l : List Str} (h : l.Pairwise fun a b => a.cps.toList ≤ b.cps.toList) : PyProof.Rows.sortedS l = true := by
  cases l with
  | nil => rfl
  | cons x r => exact rising_of r x h
theorem sorted_ex (l : List Str) : ∃ ys, ys.Perm l ∧ PyProof.Rows.sortedS ys = true := by
  refine ⟨l.mergeSort (fun a b => decide (a.cps.toList ≤ b.cps.toList)), List.mergeSort_perm _ _, sorted_of ?_⟩
  have := List.pairwise_mergeSort (le := fun a b : Str => decide (a.cps.toList ≤ b.cps.toList)) (fun a b c h1 h2 => decide_eq_true (List.le_trans (of_decide_eq_true h1) (of_decide_eq_true h2))) (fun a b => by
    rcases List.le_total a.cps.toList b.cps.toList with h | h <;> simp [h]) l
  exact this.imp fun h => of_decide_eq_true h
theorem sortN_perm (ns : List Str) : (sortN ns).Perm ns := by
  obtain ⟨ys, p, s⟩ := sorted_ex ns
  rw [sortN_eq p s]
  exact p
theorem sortN_find {p : Str → Bool} {ns : List Str} (h : (sortN ns).find? p = none) : ∀ n ∈ ns, p n = false := fun n hn => by
  have := List.find?_eq_none.mp h n ((sortN_perm ns).mem_iff.mpr hn)
  simpa using this
/-! ### an error with one field -/
def spI1 (fld : Str) (C : Addr) : Sp := fun vs H Q _ => ∃ (x : Addr) (v : V), vs = [.ref x, v] ∧ H x = some (exo x C none) ∧ ∀ dx, H dx = none → dx ≠ x → Q .non (upd (upd H dx (exd dx [(fld, v)])) x (exo x C (some dx)))
/-- how C(v) goes out: its dict dx, new -/
def Er1 (fld : Str) (C : Addr) (v : V) (H : Hp) (E : XK) : Prop := ∀ dx H', H dx = none → H' dx = some (.xd [(fld, v)]) → Same H H' → E (.ref C) (some dx) H'
theorem er1_raise {fld : Str} {C : Addr} {v : V} {H : Hp} {E : XK} (k : Er1 fld C v H E) : ([v] : List V).length ≤ 1000 ∧ ∀ x, H x = none → spI1 fld C (.ref x :: ([v] ++ [])) (upd H x (exo x C none))
    (fun u H2 => u = .non ∧ ∃ (dd : Addr) (fs : List (Str × V)), H2 x = some (exo x C (some dd)) ∧ H2 dd = some (exd dd fs) ∧ H dd = none ∧ E (.ref C) (some dd) (upd (del H2 x) dd (.xd fs))) (fun _ _ _ => False) := by
  refine ⟨by show 1 ≤ 1000; decide, fun x hx => ⟨x, v, rfl, upd_same, fun dx hdx ne => ⟨rfl, dx, _, upd_same, by rw [upd_ne ne]; exact upd_same, ?_, ?_⟩⟩⟩
  · rw [upd_ne ne] at hdx
    exact hdx
  · rw [upd_ne ne] at hdx
    refine k dx _ hdx upd_same fun b o e => ?_
    have nb : b ≠ x := ne_of_none e hx
    have nd : b ≠ dx := ne_of_none e hdx
    rw [upd_ne nd, del_ne nb, upd_ne nb, upd_ne nd, upd_ne nb]
    exact e
/-! ### a store, of rows of any kind -/
structure RwT where
  name : Str
  at_ : Addr
  xs : List V
def rwtK (fs : List RwT) : List (Key × V) := fs.map fun b => (Sum.inr b.name, V.ref b.at_)
def adrV : V → Addr
  | .ref p => p
  | _ => 0
def toE (H : Hp) (b : RwT) : RwE := ⟨b.name, b.at_, b.xs.map fun v => (adrV v, rowV H v)⟩
theorem rwtK_eq (H : Hp) (fs : List RwT) : rwtK fs = rwK (fs.map (toE H)) := by
  unfold rwtK rwK
  rw [List.map_map]
  rfl
theorem toE_names (H : Hp) (fs : List RwT) : (fs.map (toE H)).map (·.name) = fs.map (·.name) := by
  rw [List.map_map]
  rfl
theorem toE_rows (H : Hp) (b : RwT) : (toE H b).rows.map (·.2) = b.xs.map (rowV H) := by
  show (b.xs.map fun v => (adrV v, rowV H v)).map (·.2) = _
  rw [List.map_map]
  rfl
structure RwTAt (H : Hp) (b : RwT) : Prop where
  lst : H b.at_ = some (.lst b.xs)
  le : b.xs.length ≤ 500
  th : ∀ v ∈ b.xs, Th1 H v
theorem RwTAt.same {H H' : Hp} {b : RwT} (h : RwTAt H b) (s : Same H H') : RwTAt H' b := ⟨s _ _ h.lst, h.le, fun v hv => (h.th v hv).kp (Kp.same s)⟩
def TG (H : Hp) (ts : List (Str × Int)) (ks : List KeyE) (b : RwT) : Prop := ∃ w, (b.name, w) ∈ ts ∧ TabGood H w (colsOf w (markOf ks b.name)) b.xs
def TB (H : Hp) (ts : List (Str × Int)) (ks : List KeyE) (b : RwT) (v : V) : Prop := (b.name ∉ ts.map (·.1) ∧ v = .non) ∨ ∃ (w : Int) (i : Nat), (b.name, w) ∈ ts ∧ TabBad H w (colsOf w (markOf ks b.name)) b.xs i ∧ v = .int (i : Nat)
def FltX (H : Hp) (ts : List (Str × Int)) (ks : List KeyE) (fs : List RwT) (n : Str) (v : V) : Prop := ∃ i : Nat, (sortN (fs.map (·.name)))[i]? = some n ∧ (∀ m ∈ (sortN (fs.map (·.name))).take i, ∃ b ∈ fs, b.name = m ∧ TG H ts ks b) ∧ ∃ b ∈ fs, b.name = n ∧ TB H ts ks b v
theorem projs_same {H H' : Hp} {cs : List Int} {xs : List V} (h : ∀ v ∈ xs, Th1 H v) (s : Same H H') : projs H' cs xs = projs H cs xs := projs_kp (fun v hv => (h v hv).th) (Kp.same s)
theorem tabBad_same {H H' : Hp} {w : Int} {cs : List Int} {xs : List V} {i : Nat} (h : ∀ v ∈ xs, Th1 H v) (s : Same H H') (t : TabBad H' w cs xs i) : TabBad H w cs xs i := by
  obtain ⟨t1, t2, v, t3, t4⟩ := t
  have hm : ∀ v ∈ xs.take i, Th1 H v := fun v hv => h v (List.mem_of_mem_take hv)
  rw [projs_same hm s] at t2
  have hv := h v (List.mem_of_getElem? t3)
  rw [rowB_kp hv.th (Kp.same s), rowV_kp hv.th (Kp.same s), projs_same hm s] at t4
  exact ⟨fun u hu => by rw [← rowB_kp (hm u hu).th (Kp.same s)]; exact t1 u hu, t2, v, t3, t4⟩
theorem tabGood_same {H H' : Hp} {w : Int} {cs : List Int} {xs : List V} (h : ∀ v ∈ xs, Th1 H v) (s : Same H H') (t : TabGood H' w cs xs) : TabGood H w cs xs := by
  obtain ⟨t1, t2⟩ := t
  rw [projs_same h s] at t2
  exact ⟨fun u hu => by rw [← rowB_kp (h u hu).th (Kp.same s)]; exact t1 u hu, t2⟩
theorem good_at {H : Hp} {b : RwT} {w : Int} {mk : Option (List Int)} (h : RwTAt H b) (t : TabGood H w (colsOf w mk) b.xs) : RwAt H (toE H b) ∧ RowsOk w mk ((toE H b).rows.map (·.2)) := by
  obtain ⟨t1, t2⟩ := t
  have e1 : (toE H b).rows.map (fun x => V.ref x.1) = b.xs := by
    show (b.xs.map fun v => (adrV v, rowV H v)).map (fun x => V.ref x.1) = _
    rw [List.map_map]
    refine (List.map_congr_left (g := id) fun v hv => ?_).trans (List.map_id _)
    obtain ⟨p, rfl, _⟩ := rowB_ref (t1 v hv)
    rfl
  refine ⟨⟨by rw [e1]; exact h.lst, fun y hy => ?_⟩, ?_⟩
  · obtain ⟨v, hv, rfl⟩ := List.mem_map.mp hy
    obtain ⟨p, rfl, hp, _⟩ := rowB_ref (t1 v hv)
    exact hp
  · rw [toE_rows]
    refine ⟨fun r hr => ?_, ?_⟩
    · obtain ⟨v, hv, rfl⟩ := List.mem_map.mp hr
      obtain ⟨p, rfl, _, h3⟩ := rowB_ref (t1 v hv)
      exact h3
    · have e2 : (b.xs.map (rowV H)).Pairwise fun t r => projR (colsOf w mk) t ≠ projR (colsOf w mk) r := by
        refine List.pairwise_map.mpr ?_
        have := List.pairwise_map.mp (show ((b.xs.map fun v => projR (colsOf w mk) (rowV H v))).Pairwise (· ≠ ·) from t2)
        exact this
      exact e2.imp fun {x y} hne => ⟨fun e => hne (by rw [e]), fun cs e => by subst e; exact hne⟩
def totT (fs : List RwT) : Nat := (fs.map fun b => b.xs.length).sum
theorem toE_tot (H : Hp) (fs : List RwT) : ((fs.map (toE H)).map fun b => b.rows.length).sum = totT fs := by
  unfold totT
  rw [List.map_map]
  congr 1
  exact List.map_congr_left fun b _ => by
    show (b.xs.map _).length = _
    rw [List.length_map]
theorem nodup_at {α β : Type} {f : α → β} : ∀ {l : List α}, (l.map f).Nodup → ∀ {x y : α}, x ∈ l → y ∈ l → f x = f y → x = y
  | [], _, _, _, h, _, _ => by cases h
  | z :: l, nd, x, y, hx, hy, e => by
    rw [List.map_cons] at nd
    obtain ⟨n1, n2⟩ := List.nodup_cons.mp nd
    rcases List.mem_cons.mp hx with ex | hx'
    · rcases List.mem_cons.mp hy with ey | hy'
      · rw [ex, ey]
      · exact (n1 (List.mem_map.mpr ⟨y, hy', by rw [← e, ex]⟩)).elim
    · rcases List.mem_cons.mp hy with ey | hy'
      · exact (n1 (List.mem_map.mpr ⟨x, hx', by rw [e, ey]⟩)).elim
      · exact nodup_at n2 hx' hy' e
section
variable {P : Program} {w : World} {K : PySem.W.Frag} {mg : Str → Option Value} {base : Heap} {a : Nat → Addr} {d : Nat → FuncData}
theorem ok_leinit (T : Txt K mg a d) : FnOk P w K mg base CX0 1 (a 1500) (d 1500) ["self", "limit"] (spI1 "limit" (a 5)) := by
  refine T.F1500.ok sc_LimitExceeded___init__ (fun vs H Q E h => ?_) (fun cdv A outer s H vs Q E hr h => ?_)
  · obtain ⟨x, v, rfl, _⟩ := h
    rfl
  · obtain ⟨x, v, rfl, hx, q⟩ := h
    exact ⟨_, (pss_one (ps_ost (pv 0) (pv 1))), _, rfl, _, rfl, x, _, rfl, T.x_5, T.no_5_limit, .inl ⟨hx, fun dx hdx ne => q dx hdx ne⟩⟩
def spStInitX (C CS CI CL : Addr) : Sp := fun vs H Q E => ∃ (p dx x r : Addr) (Gs : Hp) (ts : List (Str × Int)) (ks : List KeyE) (ss : List SvE) (mt ms : Nat) (fs : List RwT), vs = [.ref p, .ref x, .ref r] ∧ H p = some (.ins CS dx []) ∧ SchAt C x Gs ts ks ss mt ms ∧ Same Gs H ∧ Gs p = none ∧
  DctAt H r (rwtK fs) ∧ (fs.map (·.name)).Nodup ∧ (∀ b ∈ fs, RwTAt H b) ∧ fs.length ≤ 26 ∧
  (∀ n v, FltX H ts ks fs n v → ∀ H', Same H H' → Er2 CI "table" "at" (.str n) v H' E) ∧
  ((∀ b ∈ fs, TG H ts ks b) → 400 < totT fs → ∀ H', Same H H' → Er1 "limit" CL (.int 400) H' E) ∧
  ((∀ b ∈ fs, TG H ts ks b) → totT fs ≤ 400 → ∀ (G H' : Hp) (R Fi : Addr) (us : List TabE), StO C CS p dx x R Fi G ts ks ss mt ms us → (∀ b ∈ us, Srt b.2.2 (rowsOf (fs.map (toE H)) b.1)) → Same G H' → (∀ q o, q ≠ p → H q = some o → (∀ xs, o ≠ .tup xs) → Gs q = none → G q = none) → (∀ b o, b ≠ p → H b = some o → H' b = some o) → Q .non H')
theorem ok_stinitX (T : Txt K mg a d) : FnOk P w K mg base (L2.CX P w) 6 (a 5000) (d 5000) ["self", "schema", "rows"] (spStInitX (a 34) (a 40) (a 7) (a 5)) := by
  have G38 : FnOk P w K mg base (L2.CX P w) 5 (a 38) (d 38) ["schema", "table", "rows"] (spChkTabX (a 34) (a 7)) := ok_check_tableX T
  have G1500 : FnOk P w K mg base CX0 1 (a 1500) (d 1500) ["self", "limit"] (spI1 "limit" (a 5)) := ok_leinit T
  have G4405 : FnOk P w K mg base CX0 1 (a 4405) (d 4405) ["self"] (spNms (a 34) fun ts _ => ts.map (·.1)) := ok_table_names T
  have G17 : FnOk P w K mg base CX0 4 (a 17) (d 17) ["rows"] (spSR K) := ok_sorted_rows T
  have G4403 : FnOk P w K mg base CX0 1 (a 4403) (d 4403) ["self"] (spProp (a 34) fun _ _ ss => svK ss) := ok_p_services T
  have G39 : FnOk P w K mg base CX0 2 (a 39) (d 39) ["rows", "given"] spByGiven := ok_by_given T
  refine T.F5000.okX sc_Store___init__ (fun vs H Q E h => ?_) (fun cdv A outer s H vs Q E hr h => ?_)
  · obtain ⟨p, dx, x, r, Gs, ts, ks, ss, mt, ms, fs, rfl, _⟩ := h
    rfl
  · obtain ⟨p, dx, x, r, Gs, ts, ks, ss, mt, ms, fs, rfl, hp, hx, sG, gp, hr0, hnd, hfs, hlen, q1, q2, q⟩ := h
    obtain ⟨t_MOST_ROWS, h_MOST_ROWS⟩ := T.c_MOST_ROWS
    refine ⟨_, (pss_cons (ps_for (passes_of rfl) rfl (pi_list (pe_callB (id := "sorted")  (call_sortedD rfl) (by rfl) T.z_sorted (by decide +kernel) (pa_cons (pv 2) pa_nil))) (pg_name (i := 3) sc_Store___init__.nd rfl (.inl rfl))
    (pss_one (ps_expr (pe_call G38 (hr.mono (by decide)) (by rfl) T.g38 T.F38.kp T.b38 .nil (passes_call (takes_of rfl rfl rfl rfl) (fun _ _ _ _ h => h)) (pa_cons (pv 1) (pa_cons (pv 3) (pa_cons (pe_dget (hu_of hr) (pv 2) (pv 3) (fun _ _ => rfl)) pa_nil)))))))
  (pss_cons (ps_if (pt_cmpR op_gt (pe_callB (id := "sum")  (cr_sum rfl) (by rfl) T.z_sum (by decide +kernel) (pa_cons (pe_lock (pe_lc (own := [("table", 3)]) rfl sc_Store___init__.nd (pi_keys (pv 2)) (blkOk_by (N := ["self", "schema", "rows", "table", "ordered", "row", "name", "given", "_"]) (sc := defScope s_Store___init__) (by decide +kernel)) (fun _ _ _ _ _ => pg_name (i := 3) sc_Store___init__.nd rfl (.inl rfl)) (fun _ _ _ _ _ => pts_nil) (fun _ _ _ _ _ => (pe_callB (id := "len") (r := Evl.rLenS K)  call_len_seq (by rfl) T.z_len (by decide +kernel) (pa_cons (pe_dget (hu_of hr) (pv 2) (pv 3) (fun _ _ => rfl)) pa_nil))))) pa_nil)) (pe_glob (v := .int (400)) rfl h_MOST_ROWS ⟨_, rfl⟩) (nomark _))
    (pss_one (ps_raise rfl (takes_of rfl rfl rfl rfl) (pmk_oex T.x_5 T.in_5 T.ti_5 G1500 (hr.mono (by decide)) T.b1500 .nil pass0 (by rfl) T.cg_5 (pa_cons (pe_glob (v := .int (400)) rfl h_MOST_ROWS ⟨_, rfl⟩) pa_nil))))
    pss_nil)
  (pss_cons (ps_set (i := 4) sc_Store___init__.nd rfl (.inr rfl) (pe_dc (own := [("table", 3)]) rfl sc_Store___init__.nd (pi_list (pe_meth0 (pv 1) T.cl_34 T.m_4405 G4405 (hr.mono (by decide)) T.b4405 .nil pass0)) (blkOk_by (N := ["self", "schema", "rows", "table", "ordered", "row", "name", "given", "_"]) (sc := defScope s_Store___init__) (by decide +kernel)) (fun _ _ _ _ _ => pg_name (i := 3) sc_Store___init__.nd rfl (.inl rfl)) (fun _ _ _ _ _ => pts_nil) (fun _ _ _ _ _ => (pv 3)) (fun _ _ _ _ _ => (pe_call G17 (hr.mono (by decide)) (by rfl) T.g17 T.F17.kp T.b17 .nil pass0 (pa_cons (pe_dget2 (hu_of hr) (pv 2) (pv 3) (pe_lst pa_nil) ⟨rfl, rfl, rfl, rfl⟩) pa_nil)))))
  (pss_cons (ps_fld (pv 0) (pv 1) rfl)
  (pss_cons (ps_fld (pv 0) (pe_lock (pe_dc (own := [("table", 3)]) rfl sc_Store___init__.nd (pi_keys (pv 4)) (blkOk_by (N := ["self", "schema", "rows", "table", "ordered", "row", "name", "given", "_"]) (sc := defScope s_Store___init__) (by decide +kernel)) (fun _ _ _ _ _ => pg_name (i := 3) sc_Store___init__.nd rfl (.inl rfl)) (fun _ _ _ _ _ => pts_nil) (fun _ _ _ _ _ => (pv 3)) (fun _ _ _ _ _ => (DcT.pe_dcT (own := [("row", 5)]) (by exact hu_of hr) rfl sc_Store___init__.nd (pi_listK (K := K) (by rfl) (pe_dget (by exact hu_of hr) (pv 4) (pv 3) (fun _ _ => rfl))) (blkOk_by (N := ["self", "schema", "rows", "table", "ordered", "row", "name", "given", "_"]) (sc := { kind := .function, names := [(".0", .local), ("table", .local), ("ordered", .cell)], isGenerator := false, isCoroutine := false }) (by decide +kernel)) (fun _ _ _ _ _ => pg_name (i := 5) sc_Store___init__.nd rfl (.inl rfl)) (fun _ _ _ _ _ => pts_nil) (fun _ _ _ _ _ => (pv 5)) (fun _ _ _ _ _ => pe_bl))))) rfl)
  (pss_one (ps_fld (pv 0) (pe_dc (own := [("name", 6), ("table", 3), ("given", 7), ("_", 8)]) rfl sc_Store___init__.nd (pi_items (pe_frz (pe_prop (pv 1) T.cl_34 T.p_4403 G4403 (hr.mono (by decide)) T.b4403 .nil pass0 rfl))) (blkOk_by (N := ["self", "schema", "rows", "table", "ordered", "row", "name", "given", "_"]) (sc := defScope s_Store___init__) (by decide +kernel)) (fun _ _ _ _ _ => pg_tupK (K := K) 2 rfl (by rfl) (pgs_cons (pg_name (i := 6) sc_Store___init__.nd rfl (.inl rfl)) (pgs_cons (pg_tupK (K := K) 3 rfl (by rfl) (pgs_cons (pg_name (i := 3) sc_Store___init__.nd rfl (.inl rfl)) (pgs_cons (pg_name (i := 7) sc_Store___init__.nd rfl (.inl rfl)) (pgs_cons (pg_name (i := 8) sc_Store___init__.nd rfl (.inl rfl)) pgs_nil)))) pgs_nil))) (fun _ _ _ _ _ => pts_nil) (fun _ _ _ _ _ => (pv 6)) (fun _ _ _ _ _ => (pe_call G39 (hr.mono (by decide)) (by rfl) T.g39 T.F39.kp T.b39 .nil pass0 (pa_cons (pe_dget (hu_of hr) (pv 4) (pv 3) (fun _ _ => rfl)) (pa_cons (pv 7) pa_nil))))) rfl))))))), ?_⟩
    obtain ⟨es, hE⟩ : ∃ es, es = fs.map (toE H) := ⟨_, rfl⟩
    rw [rwtK_eq H, ← hE] at hr0
    rw [← toE_names H, ← hE] at hnd
    rw [← hE] at q
    have hel : es.length = fs.length := by rw [hE, List.length_map]
    have hen : es.map (·.name) = fs.map (·.name) := by rw [hE, toE_names]
    obtain ⟨kd, er, pk⟩ := id hr0
    obtain ⟨zs, z1, z2⟩ := perm_map_ex (ys := kd) (zs := rwK es) (f := fun b : RwE => ((Sum.inr b.name : Key), V.ref b.at_)) pk es rfl
    subst z2
    have zn : (zs.map (·.name)).Nodup := (z1.map _).nodup_iff.mpr hnd
    have nms : (zs.map fun b : RwE => ((Sum.inr b.name : Key), V.ref b.at_)).map (·.1) = (zs.map (·.name)).map Sum.inr := by
      rw [List.map_map, List.map_map]
      rfl
    refine ⟨_, rfl, r, _, zs.map (·.name), rfl, .inl er, nms, by rw [List.length_map, z1.length_eq]; omega, fun ys l yp so hl => ⟨l, rfl, ?_⟩⟩
    have ysn : sortN (fs.map (·.name)) = ys := sortN_eq ((yp.trans (z1.map _)).trans (by rw [hen])) so
    have s0 := same_upd (o := .lst (ys.map V.str)) hl
    refine ⟨⟨_, .of upd_same⟩, for_list (K := K) (a := l) (xs := ys.map V.str) (fun i σ H' => ∃ y3 y4 y5 y6 y7 y8 : Option V, σ = [some (.ref p), some (.ref x), some (.ref r), y3, y4, y5, y6, y7, y8] ∧ (∀ m ∈ ys.take i, ∃ b ∈ fs, b.name = m ∧ TG H ts ks b) ∧ Same (upd H l (.lst (ys.map V.str))) H') ⟨_, _, _, _, _, _, rfl, (fun m hm => by cases hm), Same.refl _⟩ (fun i σ H' _ hp => ?_) (fun i y σ H' hy hp' => ?_) (fun σ H1 hp1 => ?_)⟩
    · obtain ⟨_, _, _, _, _, _, rfl, _, s⟩ := hp
      exact .of (s _ _ upd_same)
    · obtain ⟨_, _, _, _, _, _, rfl, g, s⟩ := hp'
      obtain ⟨n, hn, rfl⟩ := map_at hy
      have hm : n ∈ fs.map (·.name) := by
        rw [← hen]
        exact ((yp.trans (z1.map _)).mem_iff).mp (List.mem_of_getElem? hn)
      obtain ⟨b, hb, rfl⟩ := List.mem_map.mp hm
      have hbe : toE H b ∈ es := by rw [hE]; exact List.mem_map.mpr ⟨b, hb, rfl⟩
      have hb0 := hfs b hb
      have s1 := s0.trans s
      have hb1 := hb0.same s1
      refine ⟨_, rfl, _, rfl, _, rfl, _, rfl, r, _, rfl, (hr0.same s1).at_ (rw_nd hnd) (rw_val (b := toE H b) hnd hbe), x, b.at_, b.name, ts, ks, ss, mt, ms, b.xs, rfl, hx.same (sG.trans s1), hb1.lst, hb1.le, hb1.th, fun hno H2 s2 => ?_, fun w hw => ⟨fun i' hbad H2 s2 => ?_, fun hgood H2 s2 => ?_⟩⟩
      · exact q1 _ _ ⟨i, by rw [ysn]; exact hn, by rw [ysn]; exact g, b, hb, rfl, .inl ⟨hno, rfl⟩⟩ H2 (s1.trans s2)
      · exact q1 _ _ ⟨i, by rw [ysn]; exact hn, by rw [ysn]; exact g, b, hb, rfl, .inr ⟨w, i', hw, tabBad_same hb0.th s1 hbad, rfl⟩⟩ H2 (s1.trans s2)
      · refine ⟨_, _, _, _, _, _, rfl, fun m hm => ?_, s.trans s2⟩
        rw [take_succ_at hn] at hm
        rcases List.mem_append.mp hm with h | h
        · exact g m h
        · rw [List.mem_singleton.mp h]
          exact ⟨b, hb, rfl, w, hw, tabGood_same hb0.th s1 hgood⟩
    obtain ⟨y3, y4, y5, y6, y7, y8, rfl, g, s⟩ := hp1
    have s1 := s0.trans s
    rw [List.length_map, List.take_length] at g
    have fnd : (fs.map (·.name)).Nodup := by rw [← hen]; exact hnd
    have allG : ∀ b ∈ fs, TG H ts ks b := fun b hb => by
      have hm : b.name ∈ ys := by
        rw [(yp.trans (z1.map _)).mem_iff, hen]
        exact List.mem_map.mpr ⟨b, hb, rfl⟩
      obtain ⟨c, hc, e, hg⟩ := g _ hm
      have : c = b := nodup_at fnd hc hb e
      rw [← this]
      exact hg
    have hes : ∀ b ∈ es, RwAt H b ∧ ∃ w, (b.name, w) ∈ ts ∧ RowsOk w (markOf ks b.name) (b.rows.map (·.2)) := fun b hb => by
      rw [hE] at hb
      obtain ⟨c, hc, rfl⟩ := List.mem_map.mp hb
      obtain ⟨w, hw, hg⟩ := allG c hc
      obtain ⟨g1, g2⟩ := good_at (hfs c hc) hg
      exact ⟨g1, w, hw, g2⟩
    have htot : (es.map fun b => b.rows.length).sum = totT fs := by rw [hE]; exact toE_tot H fs
    have hlen' : fs.length ≤ 26 := hlen
    rw [← hel] at hlen
    clear s0 s hl g
    -- how many rows
    have er1 := s1 _ _ er
    refine ⟨r, .dK (zs.map fun b : RwE => ((Sum.inr b.name : Key), V.ref b.at_)), er1, trivial, fun od => ?_⟩
    generalize hHf : upd H1 r (.frz od (.dK (zs.map fun b : RwE => ((Sum.inr b.name : Key), V.ref b.at_)))) = Hf
    have fr : Hf r = some (.frz od (.dK (zs.map fun b : RwE => ((Sum.inr b.name : Key), V.ref b.at_)))) := by rw [← hHf]; exact upd_same
    have rz : ∀ b ∈ zs, Hf b.at_ = some (.lst (b.rows.map fun x => V.ref x.1)) := fun b hb => by
      have h1 := s1 _ _ (hes b (z1.mem_iff.mp hb)).1.lst
      rw [← hHf, upd_ne (ne_of h1 er1 (by intro z; cases z))]
      exact h1
    refine ⟨_, rfl, r, od, rfl, .inl ⟨_, fr, fun D hD => ?_⟩⟩
    refine lc_it walk_keys (fun i H' => H' D = some (.lst (((zs.take i).map fun b => (b.rows.length : Int)).map V.int)) ∧ Same Hf H') ⟨upd_same, same_upd hD⟩ (fun i H' _ hp => hp.2 _ _ fr) (fun i x' H' H'' hi hp hy => ?_) (fun H' hp => ?_)
    · obtain ⟨h1, h2⟩ := hp
      obtain ⟨rfl, k, v, hk, rfl⟩ := hy
      obtain ⟨b, hb, e⟩ := map_at hk
      cases e
      have hbm := List.mem_of_getElem? hb
      have li : i < zs.length := (List.getElem?_eq_some_iff.mp hb).1
      have lz : zs.length ≤ 26 := by rw [z1.length_eq]; exact hlen
      refine ⟨rfl, _, rfl, _, rfl, r, _, rfl, lock_at (val_nodup (by rw [nms]; exact inr_nd zn) (Sum.inr b.name, V.ref b.at_) (List.mem_map.mpr ⟨b, hbm, rfl⟩)) (h2 _ _ fr), _, _, rfl, .inl (.of (h2 _ _ (rz b hbm))), _, h1, ?_, ?_, ?_⟩
      · rw [List.length_map, List.length_map, List.length_take]
        exact small1000 (by omega)
      · rw [map_take hb, List.map_append, List.length_map]
        exact upd_same
      · intro c o e
        rw [upd_ne (ne_of_none e hD)]
        exact h2 c o e
    · obtain ⟨h1, h2⟩ := hp
      have tk : zs.take (zs.map fun b : RwE => ((Sum.inr b.name : Key), V.ref b.at_)).length = zs := by rw [List.length_map, List.take_length]
      rw [tk] at h1
      have s2 : Same H1 (upd H' r (.dK (zs.map fun b : RwE => ((Sum.inr b.name : Key), V.ref b.at_)))) := lock_same (od := od) er1 (by rw [hHf]; exact h2)
      have nDr : D ≠ r := fun e => by rw [e, fr] at hD; cases hD
      refine ⟨h2 _ _ fr, D, zs.map fun b => (b.rows.length : Int), rfl, .of (by rw [upd_ne nDr]; exact h1), ?_⟩
      generalize upd H' r (.dK (zs.map fun b : RwE => ((Sum.inr b.name : Key), V.ref b.at_))) = H2 at s2
      clear h1 h2 nDr tk H' hD D fr rz hHf Hf
      have sm : (zs.map fun b => (b.rows.length : Int)).sum = (((es.map fun b => b.rows.length).sum : Nat) : Int) := by
        have e1 : (zs.map fun b => (b.rows.length : Int)).sum = (((zs.map fun b => b.rows.length).sum : Nat) : Int) := sum_cast _
        have e2 : (zs.map fun b => b.rows.length).sum = (es.map fun b => b.rows.length).sum := (z1.map _).sum_nat
        rw [e1, e2]
      have s12 := s1.trans s2
      rw [htot] at sm
      refine ⟨_, _, rfl, rfl, _, rfl, ite_d (fun h => ?_) (fun h => ?_)⟩
      · exact er1_raise (q2 allG (by omega) _ s12)
      have hsum : (es.map fun b => b.rows.length).sum ≤ 400 := by omega
      have le1 : ∀ b ∈ es, b.rows.length ≤ 400 := fun b hb => by
        have : b.rows.length ≤ (es.map fun b => b.rows.length).sum := le_sum (List.mem_map.mpr ⟨b, hb, rfl⟩)
        omega
      replace q := q allG (by omega)
      -- the rows of each table, sorted
      have hx2 := (hx.same sG).same s12
      obtain ⟨xd, d1, d2, d3, o⟩ := id hx2
      refine ⟨_, rfl, x, xd, _, rfl, o.ob, flds_no _ _ _ (by decide +kernel) (by decide +kernel) (by decide +kernel), x, ts, ks, ss, mt, ms, rfl, hx2, fun ln ns H3 f3 e3 p3 so3 s3 => ?_⟩
      refine ⟨ln, rfl, ⟨_, .of e3⟩, fun D hD => ?_⟩
      have s13 := s12.trans s3
      have nsl : ns.length ≤ 5 := by rw [p3.length_eq, List.length_map, o.hT.len]; exact o.m5
      have nsn : ns.Nodup := p3.nodup_iff.mpr o.hT.nm.nd
      refine dc_list (K := K) (a := ln) (xs := ns.map V.str) (fun i H' => ∃ os : List RwE, H' D = some (.dK (rwK os)) ∧ os.map (·.name) = ns.take i ∧ (∀ b ∈ os, RwAt H' b ∧ SortedRows b.rows (rowsOf es b.name) ∧ H b.at_ = none) ∧ Same H3 H') ⟨[], upd_same, rfl, (fun b hb => by cases hb), same_upd hD⟩ (fun i H' _ hp => ?_) (fun i y H' hy hp => ?_) (fun H4 hq4 => ?_)
      · obtain ⟨os, _, _, _, s⟩ := hp
        exact .of (s _ _ e3)
      · obtain ⟨os, g1, g2, g3, s⟩ := hp
        obtain ⟨n, hn, rfl⟩ := map_at hy
        have hnm : n ∈ ns := List.mem_of_getElem? hn
        have li : i < ns.length := (List.getElem?_eq_some_iff.mp hn).1
        have osl : os.length ≤ i := by
          have := congrArg List.length g2
          rw [List.length_map, List.length_take] at this
          omega
        have s4 := s13.trans s
        refine ⟨rfl, _, rfl, _, rfl, r, rfl, .inl ⟨_, .inl (s4 _ _ er)⟩, _, rfl, Nat.zero_le _, fun e he => ?_⟩
        have se := same_upd (o := .lst []) he
        have s5 := s4.trans se
        refine ⟨_, (hr0.same s5).get (rw_nd hnd) (Sum.inr n), ?_⟩
        have key : ∀ (l0 : Addr) (L0 : List (Addr × RowK)), L0.map (·.2) = rowsOf es n → RwAt (upd H' e (.lst [])) ⟨n, l0, L0⟩ → (∀ b ∈ L0, (∀ k ∈ b.2, KOk k) ∧ b.2.length ≤ 100) → L0.length ≤ 10000 → ∃ (l : Addr) (L : List (Addr × RowK)), (V.ref l0 :: []) = [.ref l] ∧ SqL K (upd H' e (.lst [])) l (L.map fun b => V.ref b.1) ∧ RowsAt (upd H' e (.lst [])) L ∧ (∀ b ∈ L, (∀ k ∈ b.2, KOk k) ∧ b.2.length ≤ 100) ∧ L.length ≤ 10000 ∧
            ∀ (q : Addr) (H5 : Hp) (L' : List (Addr × RowK)), upd H' e (.lst []) q = none → Same (upd H' e (.lst [])) H5 → H5 q = some (.lst (L'.map fun b => V.ref b.1)) → RowsAt H5 L' → SortedRows L' (L.map (·.2)) → ∃ kvs k, V.str n = kV k ∧ H5 D = some (.dK kvs) ∧ kvs.length < sizeLine ∧ ∃ os : List RwE, upd H5 D (.dK (putK kvs k (.ref q))) D = some (.dK (rwK os)) ∧ os.map (·.name) = ns.take (i + 1) ∧ (∀ b ∈ os, RwAt (upd H5 D (.dK (putK kvs k (.ref q)))) b ∧ SortedRows b.rows (rowsOf es b.name) ∧ H b.at_ = none) ∧ Same H3 (upd H5 D (.dK (putK kvs k (.ref q)))) := fun l0 L0 w1 w2 w3 w4 => by
          refine ⟨l0, L0, rfl, .of w2.lst, w2.rows, w3, w4, fun q' H5 L' hq s6 hl hL hS => ?_⟩
          rw [w1] at hS
          have g15 := s6 _ _ (se _ _ g1)
          have nDq : q' ≠ D := (ne_of_none (se _ _ g1) hq).symm
          have no : valV (rwK os) (Sum.inr n) = none := rw_no (by rw [g2]; exact nd_take nsn hn)
          refine ⟨_, Sum.inr n, rfl, g15, ?_, os ++ [⟨n, q', L'⟩], ?_, ?_, fun b hb => ?_, fun c o' e' => ?_⟩
          · unfold rwK
            rw [List.length_map]
            exact small1000 (by omega)
          · rw [putK_new _ no]
            unfold rwK
            rw [List.map_append]
            exact upd_same
          · rw [List.map_append, g2, List.take_add_one, hn]
            rfl
          · rcases List.mem_append.mp hb with hb | hb
            · obtain ⟨c1, c2, c3⟩ := g3 b hb
              exact ⟨(c1.same (se.trans s6)).oth g15 (by intro _ z; cases z) (ne_of ((se.trans s6) _ _ c1.lst) g15 (by intro z; cases z)), c2, c3⟩
            · rw [List.mem_singleton.mp hb]
              exact ⟨(RwAt.mk (b := ⟨n, q', L'⟩) hl hL).oth g15 (by intro _ z; cases z) nDq, hS, s5.free hq⟩
          · rw [upd_ne (ne_of_none e' hD)]
            exact s6 _ _ (se _ _ (s _ _ e'))
        by_cases hm : n ∈ es.map (·.name)
        · obtain ⟨b, hb, rfl⟩ := List.mem_map.mp hm
          obtain ⟨hb1, w, hw, hok⟩ := hes b hb
          rw [rw_val hnd hb]
          have hbw : ∀ y ∈ b.rows, (∀ k ∈ y.2, KOk k) ∧ y.2.length ≤ 100 := fun y hy => by
            obtain ⟨v1, v2⟩ := hok.wid y.2 (List.mem_map.mpr ⟨y, hy, rfl⟩)
            have v3 := o.hT.wd _ hw
            exact ⟨fun k hk => (v2 k hk).ok, by omega⟩
          exact key b.at_ b.rows (rowsOf_at hnd hb).symm (hb1.same s5) hbw (by have := le1 b hb; omega)
        · rw [rw_no hm]
          exact key e [] (rowsOf_no hm).symm ⟨upd_same, fun b hb => by cases hb⟩ (fun b hb => by cases hb) (Nat.zero_le _)
      · obtain ⟨os, g1, g2, g3, s4⟩ := hq4
        rw [List.length_map, List.take_length] at g2
        have s14 := s13.trans s4
        have e4 := s4 _ _ e3
        -- self.schema
        have hp4 := s14 _ _ hp
        refine ⟨_, rfl, _, rfl, p, _, dx, _, rfl, hp4, T.cl_40, T.no_40_schema, by show 0 < 1000; decide, ?_⟩
        generalize hH5 : upd H4 p _ = H5
        have hp5 : H5 p = some (.ins (a 40) dx (putF "schema" (.ref x) [])) := by rw [← hH5]; exact upd_same
        have o5 : ∀ b o, b ≠ p → H4 b = some o → H5 b = some o := fun b o n e => by rw [← hH5, upd_ne n]; exact e
        have o05 : ∀ b o, b ≠ p → H b = some o → H5 b = some o := fun b o n e => o5 b o n (s14 _ _ e)
        have nop : ∀ {b : Addr} {o : HO}, H4 b = some o → (∀ C dx fs, o ≠ .ins C dx fs) → b ≠ p := fun {b o} h1 h2 e => by
          rw [e, hp4] at h1
          exact h2 _ _ _ (Option.some.inj h1).symm
        have g15 : H5 D = some (.dK (rwK os)) := o5 _ _ (nop g1 (by intro _ _ _ z; cases z)) g1
        have r5 : ∀ b ∈ os, RwAt H5 b := fun b hb => ⟨o5 _ _ (nop (g3 b hb).1.lst (by intro _ _ _ z; cases z)) (g3 b hb).1.lst, fun y hy => o5 _ _ (nop ((g3 b hb).1.rows y hy) (by intro _ _ _ z; cases z)) ((g3 b hb).1.rows y hy)⟩
        have osn : (os.map (·.name)).Nodup := by rw [g2]; exact nsn
        have osl : os.length ≤ 5 := by
          have := congrArg List.length g2
          rw [List.length_map] at this
          omega
        have bl400 : ∀ b ∈ os, b.rows.length ≤ 400 := fun b hb => by
          have h1 := (g3 b hb).2.1.len
          by_cases hm : b.name ∈ es.map (·.name)
          · obtain ⟨c, hc, e⟩ := List.mem_map.mp hm
            rw [← e, rowsOf_at hnd hc, List.length_map] at h1
            have := le1 c hc
            omega
          · rw [rowsOf_no hm] at h1
            exact Nat.le_trans h1 (Nat.zero_le _)
        -- self._rows
        refine ⟨D, .dK (rwK os), g15, trivial, fun od => ?_⟩
        generalize hHf : upd H5 D (.frz od (.dK (rwK os))) = Hf
        have fr : Hf D = some (.frz od (.dK (rwK os))) := by rw [← hHf]; exact upd_same
        have rf : ∀ b ∈ os, RwAt Hf b := fun b hb => by
          rw [← hHf]
          exact ⟨by rw [upd_ne (ne_of (r5 b hb).lst g15 (by intro z; cases z))]; exact (r5 b hb).lst, lock_rows g15 (by intro _ z; cases z) (r5 b hb).rows⟩
        have free5 : ∀ {c : Addr}, H5 c = none → H c = none := fun {c} h1 => by
          cases h2 : H c with
          | none => rfl
          | some o2 =>
            by_cases n : c = p
            · rw [n, hp5] at h1
              cases h1
            · rw [o05 c o2 n h2] at h1
              cases h1
        refine ⟨_, rfl, D, od, rfl, .inl ⟨_, fr, fun R hR => ?_⟩⟩
        have hR5 : H5 R = none := by
          rw [← hHf] at hR
          by_cases n : R = D
          · rw [n, upd_same] at hR
            cases hR
          · rw [upd_ne n] at hR
            exact hR
        refine dc_it walk_keys (fun i H' => ∃ us : List TabE, H' R = some (.dK (rdK us)) ∧ us.map (fun b => (b.1, b.2.2)) = (os.take i).map (fun b => (b.name, b.rows.map (·.2))) ∧ (∀ b ∈ us, H' b.2.1 = some (.dT (b.2.2.map fun k => (k, V.bl true))) ∧ H b.2.1 = none) ∧ (us.map (·.2.1)).Nodup ∧ Same Hf H') ⟨[], upd_same, rfl, (fun b hb => by cases hb), List.nodup_nil, same_upd hR⟩ (fun i H' _ hp => ?_) (fun i y H' H'' hi hp hy => ?_) (fun H6 hq6 => ?_)
        · obtain ⟨us, _, _, _, _, s⟩ := hp
          exact s _ _ fr
        · obtain ⟨us, u1, u2, u3, u4, s⟩ := hp
          obtain ⟨rfl, k, v, hk, rfl⟩ := hy
          obtain ⟨b, hb, e⟩ := map_at hk
          cases e
          have hbm := List.mem_of_getElem? hb
          have li : i < os.length := (List.getElem?_eq_some_iff.mp hb).1
          have usl : us.length ≤ i := by
            have := congrArg List.length u2
            rw [List.length_map, List.length_map, List.length_take] at this
            omega
          have lb := (rf b hbm).lst
          have hb4 := bl400 b hbm
          refine ⟨rfl, _, rfl, _, rfl, _, rfl, D, _, rfl, lock_at (rw_val osn hbm) (s _ _ fr), b.at_, rfl, ⟨_, .of (s _ _ lb)⟩, fun q hq => ?_⟩
          refine DcT.dcT_list (K := K) (a := b.at_) (xs := b.rows.map fun x => V.ref x.1) (fun j H3 => H3 q = some (.dT (((b.rows.take j).map (·.2)).map fun k => (k, V.bl true))) ∧ Same H'' H3) ⟨upd_same, same_upd hq⟩ (fun j H3 _ hp => .of (hp.2 _ _ (s _ _ lb))) (fun j z H3 hz hp => ?_) (fun H3 hp => ?_)
          · obtain ⟨v1, v2⟩ := hp
            obtain ⟨y, hy, rfl⟩ := map_at hz
            have hym := List.mem_of_getElem? hy
            have lj : j < b.rows.length := (List.getElem?_eq_some_iff.mp hy).1
            have no : valV (((b.rows.take j).map (·.2)).map fun k => (k, V.bl true)) y.2 = none := valV_no (by
              rw [List.map_map]
              have nd := srt_nd (g3 b hbm).2.1.up
              exact (show ¬ y.2 ∈ ((b.rows.take j).map (·.2)).map id by
                rw [List.map_id, List.map_take]
                exact nd_take nd (by rw [List.getElem?_map, hy]; rfl)))
            refine ⟨rfl, _, rfl, _, y.2, y.1, rfl, v2 _ _ (s _ _ ((rf b hbm).rows y hym)), v1, ?_, ?_, fun c o' e' => ?_⟩
            · rw [List.length_map, List.length_map, List.length_take]
              exact small1000 (by omega)
            · rw [putK_new _ no, map_take hy, List.map_append]
              exact upd_same
            · rw [upd_ne (ne_of_none e' hq)]
              exact v2 _ _ e'
          · obtain ⟨v1, v2⟩ := hp
            rw [List.length_map, List.take_length] at v1
            have no : valV (rdK us) (Sum.inr b.name) = none := rd_no (by
              have e1 : us.map (·.1) = (os.take i).map (·.name) := by
                have := congrArg (List.map Prod.fst) u2
                rw [List.map_map, List.map_map] at this
                exact this
              rw [e1, List.map_take]
              exact nd_take osn (by rw [List.getElem?_map, hb]; rfl))
            have u16 := v2 _ _ u1
            have nRq : q ≠ R := (ne_of_none u1 hq).symm
            refine ⟨_, Sum.inr b.name, rfl, u16, ?_, us ++ [(b.name, q, b.rows.map (·.2))], ?_, ?_, fun c hc => ?_, ?_, fun c o' e' => ?_⟩
            · unfold rdK
              rw [List.length_map]
              exact small1000 (by omega)
            · rw [putK_new _ no]
              unfold rdK
              rw [List.map_append]
              exact upd_same
            · rw [List.map_append, u2, List.take_add_one, hb, List.map_append]
              rfl
            · rcases List.mem_append.mp hc with hc | hc
              · obtain ⟨c1, c2⟩ := u3 c hc
                exact ⟨by rw [upd_ne (ne_of (v2 _ _ c1) u16 (by intro z; cases z))]; exact v2 _ _ c1, c2⟩
              · rw [List.mem_singleton.mp hc]
                refine ⟨by rw [upd_ne nRq]; exact v1, ?_⟩
                have q5 : H5 q = none := by
                  have q6 := s.free hq
                  rw [← hHf] at q6
                  by_cases n : q = D
                  · rw [n, upd_same] at q6
                    cases q6
                  · rw [upd_ne n] at q6
                    exact q6
                exact free5 q5
            · rw [List.map_append]
              refine List.nodup_append.mpr ⟨u4, List.nodup_cons.mpr ⟨by simp, List.nodup_nil⟩, fun x hx y hy e => ?_⟩
              obtain ⟨c, hc, rfl⟩ := List.mem_map.mp hx
              rw [List.mem_singleton.mp hy] at e
              have h1 := (u3 c hc).1
              rw [show c.2.1 = q from e, hq] at h1
              cases h1
            · rw [upd_ne (ne_of_none e' hR)]
              exact v2 _ _ (s _ _ e')
        · obtain ⟨us, u1, u2, u3, u4, s6⟩ := hq6
          have tk : os.take (rwK os).length = os := by
            unfold rwK
            rw [List.length_map, List.take_length]
          have u2' : us.map (fun b => (b.1, b.2.2)) = os.map (fun b => (b.name, b.rows.map (·.2))) := by rw [u2]; exact congrArg _ tk
          clear u2
          have s57 : Same H5 (upd H6 D (.dK (rwK os))) := lock_same (od := od) g15 (by rw [hHf]; exact s6)
          have nDR : R ≠ D := fun e => by rw [e, fr] at hR; cases hR
          refine ⟨s6 _ _ fr, _, rfl, p, _, dx, _, rfl, s57 _ _ hp5, T.cl_40, T.no_40__rows, by show 1 < 1000; decide, ?_⟩
          have u17 : (upd H6 D (.dK (rwK os))) R = some (.dK (rdK us)) := by rw [upd_ne nDR]; exact u1
          have u37 : ∀ b ∈ us, (upd H6 D (.dK (rwK os))) b.2.1 = some (.dT (b.2.2.map fun k => (k, V.bl true))) := fun b hb => by
            rw [upd_ne (ne_of (u3 b hb).1 (s6 _ _ fr) (by intro z; cases z))]
            exact (u3 b hb).1
          have hp7 := s57 _ _ hp5
          generalize (upd H6 D (.dK (rwK os))) = H7 at s57 u17 u37 hp7 ⊢
          generalize hH8 : upd H7 p _ = H8
          have hp8 : H8 p = some (.ins (a 40) dx (putF "_rows" (.ref R) (putF "schema" (.ref x) []))) := by rw [← hH8]; exact upd_same
          have o8 : ∀ b o, b ≠ p → H7 b = some o → H8 b = some o := fun b o n e => by rw [← hH8, upd_ne n]; exact e
          have o58 : ∀ b o, b ≠ p → H5 b = some o → H8 b = some o := fun b o n e => o8 b o n (s57 _ _ e)
          have o08 : ∀ b o, b ≠ p → H b = some o → H8 b = some o := fun b o n e => o58 b o n (o05 b o n e)
          have nop8 : ∀ {b : Addr} {o : HO}, H7 b = some o → (∀ C dx fs, o ≠ .ins C dx fs) → b ≠ p := fun {b o} h1 h2 e => by
            rw [e, hp7] at h1
            exact h2 _ _ _ (Option.some.inj h1).symm
          have g18 : H8 D = some (.dK (rwK os)) := o8 _ _ (nop8 (s57 _ _ g15) (by intro _ _ _ z; cases z)) (s57 _ _ g15)
          have r8 : ∀ b ∈ os, RwAt H8 b := fun b hb => ⟨o8 _ _ (nop8 (s57 _ _ (r5 b hb).lst) (by intro _ _ _ z; cases z)) (s57 _ _ (r5 b hb).lst), fun y hy => o8 _ _ (nop8 (s57 _ _ ((r5 b hb).rows y hy)) (by intro _ _ _ z; cases z)) (s57 _ _ ((r5 b hb).rows y hy))⟩
          have u18 : H8 R = some (.dK (rdK us)) := o8 _ _ (nop8 u17 (by intro _ _ _ z; cases z)) u17
          have u38 : ∀ b ∈ us, H8 b.2.1 = some (.dT (b.2.2.map fun k => (k, V.bl true))) := fun b hb => o8 _ _ (nop8 (u37 b hb) (by intro _ _ _ z; cases z)) (u37 b hb)
          have free8 : ∀ {c : Addr}, H8 c = none → H c = none := fun {c} h1 => by
            cases h2 : H c with
            | none => rfl
            | some o2 =>
              by_cases n : c = p
              · rw [n, hp8] at h1
                cases h1
              · rw [o08 c o2 n h2] at h1
                cases h1
          have sG8 : Same Gs H8 := fun b o e => by
            have n : b ≠ p := fun z => by rw [z, gp] at e; cases e
            exact o08 b o n (sG b o e)
          have hx8 := hx.same sG8
          obtain ⟨xe, e1, e2, e3', oo⟩ := id hx8
          -- self._fitting
          refine ⟨_, rfl, x, xe, _, rfl, oo.ob, x, ts, ks, ss, mt, ms, rfl, hx8, fun Dv H9 fDv hDv s9 => ?_⟩
          obtain ⟨kv, ekv, pkv⟩ := id hDv
          obtain ⟨sz, y1, y2⟩ := perm_map_ex (ys := kv) (zs := svK ss) (f := fun b : SvE => ((Sum.inr b.name : Key), V.ref b.at_)) pkv ss rfl
          subst y2
          refine ⟨Dv, _, rfl, ekv, trivial, fun od2 => ?_⟩
          generalize hHg : upd H9 Dv (.frz od2 _) = Hg
          have fg : Hg Dv = some (.frz od2 (.dK (sz.map fun b : SvE => ((Sum.inr b.name : Key), V.ref b.at_)))) := by rw [← hHg]; exact upd_same
          have s8g : Same H8 Hg := fun b o e => by
            rw [← hHg, upd_ne (ne_of_none e fDv)]
            exact s9 _ _ e
          refine ⟨Dv, od2, _, rfl, fg, fun Fi hFi => ?_⟩
          have hS8 := hx8
          refine dc_it walk_items (fun i H' => ∃ fs : List FitE, H' Fi = some (.dK (fitK fs)) ∧ fs.map (·.name) = (sz.take i).map (·.name) ∧ (∀ f ∈ fs, FitOk H' ss us f ∧ H f.at_ = none ∧ ∀ g ∈ f.gs, H g.2.1 = none) ∧ Same Hg H') ⟨[], upd_same, rfl, (fun b hb => by cases hb), same_upd hFi⟩ (fun i H' _ hp => ?_) (fun i y H' H'' hi hp hy => ?_) (fun HL hqL => ?_)
          · obtain ⟨fs, _, _, _, s⟩ := hp
            exact s _ _ fg
          · obtain ⟨fs, f1, f2, f3, s⟩ := hp
            obtain ⟨T', u, v, rfl, hT', rfl, hu, hv⟩ := hy
            have szl : i < sz.length := by
              have := hi
              rw [List.length_map] at this
              exact this
            obtain ⟨b, hb⟩ : ∃ b, sz[i]? = some b := ⟨_, List.getElem?_eq_getElem szl⟩
            have ei : (sz.map fun b : SvE => ((Sum.inr b.name : Key), V.ref b.at_))[i]? = some ((Sum.inr b.name : Key), V.ref b.at_) := by rw [List.getElem?_map, hb]; rfl
            have eu : V.str b.name = u := by
              have h1 : ((sz.map fun b : SvE => ((Sum.inr b.name : Key), V.ref b.at_))[i]?.map fun kv => kV kv.1) = some u := hu
              rw [ei] at h1
              exact Option.some.inj h1
            have ev : V.ref b.at_ = v := by
              have h1 : ((sz.map fun b : SvE => ((Sum.inr b.name : Key), V.ref b.at_))[i]?.map Prod.snd) = some v := hv
              rw [ei] at h1
              exact Option.some.inj h1
            subst eu ev
            have hbs : b ∈ ss := y1.mem_iff.mp (List.mem_of_getElem? hb)
            have sok := oo.hS.ok b hbs
            obtain ⟨wb, w1, w2, w3⟩ := sok.ok
            have sT := same_upd (o := .tup [.str b.name, .ref b.at_]) hT'
            have s8i := (s8g.trans s).trans sT
            obtain ⟨ob, hob, e5⟩ : ∃ ob ∈ os, ob.name = b.tab := by
              have : b.tab ∈ os.map (·.name) := by
                rw [g2, p3.mem_iff]
                exact List.mem_map.mpr ⟨_, w1, rfl⟩
              obtain ⟨ob, h1, h2⟩ := List.mem_map.mp this
              exact ⟨ob, h1, h2⟩
            have hor := (r8 ob hob).same s8i
            have owid : ∀ y ∈ ob.rows, (y.2.length : Int) = wb := fun y hy => by
              have h1 := ((g3 ob hob).2.1.all y.2).mp (List.mem_map.mpr ⟨y, hy, rfl⟩)
              by_cases hm : ob.name ∈ es.map (·.name)
              · obtain ⟨c, hc, e⟩ := List.mem_map.mp hm
                rw [← e, rowsOf_at hnd hc] at h1
                obtain ⟨_, w', hw', hok⟩ := hes c hc
                have hce : c.name = b.tab := e.trans e5
                rw [hce] at hw'
                have : w' = wb := by rw [← widthAt_mem o.hT.nm.nd hw', ← widthAt_mem o.hT.nm.nd w1]
                rw [← this]
                exact (hok.wid y.2 h1).1
              · rw [rowsOf_no hm] at h1
                cases h1
            refine ⟨T', _, rfl, .of upd_same, rfl, _, _, rfl, _, _, rfl, ⟨b.at_, _, rfl, .of (s8i _ _ sok.told.tup), rfl, _, _, rfl, _, _, rfl, _, _, rfl, rfl, ?_⟩⟩
            have hv5 : valV (rwK os) (Sum.inr b.tab) = some (.ref ob.at_) := by rw [← e5]; exact rw_val osn hob
            refine ⟨rfl, rfl, _, rfl, _, rfl, _, rfl, D, _, rfl, (DctAt.of (s8i _ _ g18)).at_ (rw_nd osn) hv5, _, rfl, ob.at_, b.ga, ob.rows, b.cols, wb, rfl, hor.lst, hor.rows, s8i _ _ sok.told.cols, w2.2, owid, by omega, by have := bl400 ob hob; omega, fun Dg gs HG fDg fgs GG s10 => ?_⟩
            have f1' := s10 _ _ (sT _ _ f1)
            have fsl : fs.length ≤ 8 := by
              have h1 := congrArg List.length f2
              rw [List.length_map, List.length_map, List.length_take] at h1
              have h2 : ss.length = ms := by rw [← oo.hS.nm.len, List.length_map]
              have h3 := oo.n8
              have h4 := y1.length_eq
              omega
            have szn : (sz.map (·.name)).Nodup := (y1.map _).nodup_iff.mpr oo.hS.nm.nd
            have no : valV (fitK fs) (Sum.inr b.name) = none := valV_no (by
              rw [keys_fit, f2, List.map_take]
              exact inr_no (nd_take szn (by rw [List.getElem?_map, hb]; rfl)))
            obtain ⟨ue, hue, he1⟩ : ∃ ue ∈ us, (ue.1, ue.2.2) = (ob.name, ob.rows.map (·.2)) := by
              have : (ob.name, ob.rows.map (·.2)) ∈ us.map (fun b => (b.1, b.2.2)) := by
                rw [u2']
                exact List.mem_map.mpr ⟨ob, hob, rfl⟩
              obtain ⟨ue, h1, h2⟩ := List.mem_map.mp this
              exact ⟨ue, h1, h2⟩
            refine ⟨_, Sum.inr b.name, rfl, f1', ?_, fs ++ [⟨b.name, Dg, b.cols, ob.rows, gs⟩], ?_, ?_, fun f hf => ?_, fun c o' e' => ?_⟩
            · unfold fitK
              rw [List.length_map]
              exact small1000 (by omega)
            · rw [putK_new _ no]
              unfold fitK
              rw [List.map_append]
              exact upd_same
            · rw [List.map_append, f2, List.take_add_one, hb, List.map_append]
              rfl
            · rcases List.mem_append.mp hf with hf | hf
              · obtain ⟨c1, c2, c3⟩ := f3 f hf
                exact ⟨(c1.same (sT.trans s10)).oth f1', c2, c3⟩
              · rw [List.mem_singleton.mp hf]
                refine ⟨⟨GG.oth f1' (by intro _ z; cases z) (by intro _ z; cases z), fun y hy => upd_tup f1' (by intro _ z; cases z) _ _ (s10 _ _ (hor.rows y hy)), b, hbs, rfl, rfl, ue, hue, ?_, ?_⟩, free8 (s8i.free fDg), fun g hg => free8 (s8i.free (fgs g hg))⟩
                · exact (Prod.mk.inj he1).1.trans e5
                · exact (Prod.mk.inj he1).2.symm
            · rw [upd_ne (ne_of_none e' hFi)]
              exact s10 _ _ (sT _ _ (s _ _ e'))
          · obtain ⟨fs, f1, f2, f3, s⟩ := hqL
            have tks : sz.take (sz.map fun b : SvE => ((Sum.inr b.name : Key), V.ref b.at_)).length = sz := by rw [List.length_map, List.take_length]
            rw [tks] at f2
            have s8L := s8g.trans s
            have hpL := s8L _ _ hp8
            refine ⟨_, rfl, p, _, dx, _, rfl, hpL, T.cl_40, T.no_40__fitting, ?_, ?_⟩
            · have e : putF "_rows" (.ref R) (putF "schema" (.ref x) ([] : List (Str × V))) = [(("schema" : Str), V.ref x), (("_rows" : Str), V.ref R)] := by
                show (if ("schema" : Str) = "_rows" then _ else (("schema" : Str), V.ref x) :: putF "_rows" (.ref R) []) = _
                rw [if_neg (by decide +kernel)]
                rfl
              rw [e]
              show 2 < 1000
              decide
            · generalize hHz : upd HL p _ = Hz
              have hpz : Hz p = some (.ins (a 40) dx (fldsT x R Fi)) := by rw [← hHz]; exact upd_same
              have oz : ∀ b o, b ≠ p → HL b = some o → Hz b = some o := fun b o n e => by rw [← hHz, upd_ne n]; exact e
              have o0z : ∀ b o, b ≠ p → H b = some o → Hz b = some o := fun b o n e => oz b o n (s8L _ _ (o08 b o n e))
              have nopL : ∀ {b : Addr} {o : HO}, HL b = some o → (∀ C dx fs, o ≠ .ins C dx fs) → b ≠ p := fun {b o} h1 h2 e => by
                rw [e, hpL] at h1
                exact h2 _ _ _ (Option.some.inj h1).symm
              have up : ∀ {b : Addr} {o : HO}, H b = none → HL b = some o → hlet (cut H p) Hz Gs b = some o := fun {b o} h1 h2 => by
                rw [hlet_new (cut_none h1)]
                exact oz b o (fun e => by rw [e, hp] at h1; cases h1) h2
              have upt : ∀ {b : Addr} {xs : List V}, HL b = some (.tup xs) → hlet (cut H p) Hz Gs b = some (.tup xs) := fun {b xs} h2 => by
                have n := nopL h2 (by intro _ _ _ z; cases z)
                cases h1 : H b with
                | none => exact up h1 h2
                | some o2 =>
                  have h3 := oz b _ n h2
                  have h4 := o0z b o2 n h1
                  rw [h3] at h4
                  cases h4
                  rw [hlet_tup (by rw [cut_ne n]; exact h1)]
                  exact h3
              have nDR : H R = none := free5 hR5
              have upG : Same Gs (hlet (cut H p) Hz Gs) := fun b o e => by
                rw [hlet_old e]
                exact o0z b o (fun z => by rw [z, gp] at e; cases e) (sG b o e)
              have wdu : ∀ b ∈ us, ∃ c ∈ os, c.name = b.1 ∧ b.2.2 = c.rows.map (·.2) := fun b hb => by
                have : (b.1, b.2.2) ∈ os.map (fun b => (b.name, b.rows.map (·.2))) := by
                  rw [← u2']
                  exact List.mem_map.mpr ⟨b, hb, rfl⟩
                obtain ⟨c, hc, e⟩ := List.mem_map.mp this
                exact ⟨c, hc, (Prod.mk.inj e).1, (Prod.mk.inj e).2.symm⟩
              have usn : us.map (·.1) = os.map (·.name) := by
                have := congrArg (List.map Prod.fst) u2'
                rw [List.map_map, List.map_map] at this
                exact this
              refine q (hlet (cut H p) Hz Gs) Hz R Fi us ⟨?_, hx.same upG, ⟨⟨_, up nDR (s8L _ _ u18), .refl _⟩, by rw [usn]; exact osn, u4, fun b hb => up (u3 b hb).2 (s8L _ _ (u38 b hb))⟩, ?_, fun b hb => ?_, fun b hb => ?_, fun b hb => ?_, fs, ⟨_, up ?_ f1, .refl _⟩, ?_, fun f hf => ?_⟩ (fun b hb => ?_) (hlet_same _ _ _) (fun c o n h1 h2 h3 => ?_) o0z
              · rw [hlet_new (cut_at H p)]
                exact hpz
              · rw [usn, g2]
                exact p3
              · obtain ⟨c, hc, e1, e2⟩ := wdu b hb
                have hm : c.name ∈ ts.map (·.1) := by
                  rw [← p3.mem_iff, ← g2]
                  exact List.mem_map.mpr ⟨c, hc, rfl⟩
                obtain ⟨y, hy, ey⟩ := List.mem_map.mp hm
                refine ⟨y.2, by rw [← e1, ← ey]; exact hy, fun rr hrr => ?_⟩
                rw [e2] at hrr
                have h1 := ((g3 c hc).2.1.all rr).mp hrr
                by_cases hm2 : c.name ∈ es.map (·.name)
                · obtain ⟨z, hz, ez⟩ := List.mem_map.mp hm2
                  rw [← ez, rowsOf_at hnd hz] at h1
                  obtain ⟨_, w', hw', hok⟩ := hes z hz
                  have hy2 : (c.name, y.2) ∈ ts := by rw [← ey]; exact hy
                  rw [ez] at hw'
                  have : w' = y.2 := by rw [← widthAt_mem o.hT.nm.nd hw', ← widthAt_mem o.hT.nm.nd hy2]
                  rw [← this]
                  exact hok.wid rr h1
                · rw [rowsOf_no hm2] at h1
                  cases h1
              · obtain ⟨c, hc, e1, e2⟩ := wdu b hb
                rw [e2, List.length_map]
                have := bl400 c hc
                omega
              · obtain ⟨c, hc, e1, e2⟩ := wdu b hb
                rw [e2]
                exact List.pairwise_map.mpr (g3 c hc).2.1.up
              · have h1 : Hg Fi = none := hFi
                exact free8 (s8g.free h1)
              · rw [f2]
                exact y1.map _
              · obtain ⟨c1, c2, c3⟩ := f3 f hf
                exact ⟨⟨up c2 c1.grp.dic, fun g hg => up (c3 g hg) (c1.grp.lst g hg), c1.grp.keys, c1.grp.ats, c1.grp.val, c1.grp.all, c1.grp.le⟩, fun y hy => upt (c1.rows y hy), c1.svc⟩
              · obtain ⟨c, hc, e1, e2⟩ := wdu b hb
                rw [e2, ← e1]
                exact ⟨(g3 c hc).2.1.all, List.pairwise_map.mpr (g3 c hc).2.1.up⟩
              · exact hlet_no (by rw [cut_ne n]; exact h1) h2 h3
end
/-! ### two generators, the second over what the first gives -/
section
theorem lc2_in {J1 : It} {n : Nat} {Gd : Hp → Prop} {Y : Nat → Hp → V → Hp → Prop} (w : Walk J1 n Gd Y) {g1 : L2.TG} {tt1 : TT} {te : TE} {vs1 : List Nat} {σ2 : L2.St} {H4 : Hp} {D : Addr} {Nx : Hp → Prop} (Pv : Nat → Hp → Prop) (h0 : Pv 0 H4) (hG : ∀ i H, i ≤ n → Pv i H → Gd H)
    (hs : ∀ i x H H', i < n → Pv i H → Y i H x H' → g1 x (wipe σ2 vs1) H' fun σ3 H5 => wipe σ3 vs1 = wipe σ2 vs1 ∧ tt1 σ3 H5 fun b H6 =>
      if b = true then te σ3 H6 fun y H7 => ∃ acc, H7 D = some (.lst acc) ∧ acc.length < sizeLine ∧ Pv (i + 1) (upd H7 D (.lst (acc ++ [y]))) else Pv (i + 1) H6) (hd : ∀ H, Pv n H → Nx H) :
    ∃ W1 : Nat → Nat → Hp → Prop, (∃ m, W1 0 m H4) ∧ ∀ j k H, W1 j k H →
      (J1.stop j H ∧ Nx H) ∨ (J1.go j H ∧ ∃ Nx1 : Hp → Prop, (∀ H', Nx1 H' → ∃ k', k' < k ∧ W1 (j + 1) k' H') ∧ ∀ x H', J1.yld j H x H' → g1 x (wipe σ2 vs1) H' fun σ3 H5 => wipe σ3 vs1 = wipe σ2 vs1 ∧ tt1 σ3 H5 fun b H6 =>
        if b = true then te σ3 H6 fun y H7 => ∃ acc, H7 D = some (.lst acc) ∧ acc.length < sizeLine ∧ Nx1 (upd H7 D (.lst (acc ++ [y]))) else Nx1 H6) := by
  refine ⟨fun i m H => m = n - i ∧ i ≤ n ∧ Pv i H, ⟨n, by simp, Nat.zero_le _, h0⟩, ?_⟩
  rintro i m H ⟨rfl, hi, p⟩
  have q := hG i H hi p
  by_cases hlt : i < n
  · refine .inr ⟨w.goes i H hlt q, Pv (i + 1), fun H' p' => ⟨n - (i + 1), by omega, rfl, hlt, p'⟩, fun x H' y => hs i x H H' hlt p (w.yields i H x H' hlt q y)⟩
  · have e : i = n := by omega
    subst e
    exact .inl ⟨w.stops H q, hd H p⟩
/-- the outer one: the turn's end is Pv (i + 1) -/
theorem lc2_out {J : It} {n : Nat} {Gd : Hp → Prop} {Y : Nat → Hp → V → Hp → Prop} (w : Walk J n Gd Y) {F : (Hp → Prop) → V → Hp → Prop} {H0 : Hp} {Qd : Hp → Prop} (Pv : Nat → Hp → Prop) (h0 : Pv 0 H0) (hG : ∀ i H, i ≤ n → Pv i H → Gd H)
    (hs : ∀ i x H H', i < n → Pv i H → Y i H x H' → F (Pv (i + 1)) x H') (hd : ∀ H, Pv n H → Qd H) :
    ∃ W : Nat → Nat → Hp → Prop, (∃ m, W 0 m H0) ∧ ∀ i m H, W i m H → (J.stop i H ∧ Qd H) ∨ (J.go i H ∧ ∃ Nx : Hp → Prop, (∀ H', Nx H' → ∃ m', m' < m ∧ W (i + 1) m' H') ∧ ∀ x H', J.yld i H x H' → F Nx x H') := by
  refine ⟨fun i m H => m = n - i ∧ i ≤ n ∧ Pv i H, ⟨n, by simp, Nat.zero_le _, h0⟩, ?_⟩
  rintro i m H ⟨rfl, hi, p⟩
  have q := hG i H hi p
  by_cases hlt : i < n
  · refine .inr ⟨w.goes i H hlt q, Pv (i + 1), fun H' p' => ⟨n - (i + 1), by omega, rfl, hlt, p'⟩, fun x H' y => hs i x H H' hlt p (w.yields i H x H' hlt q y)⟩
  · have e : i = n := by omega
    subst e
    exact .inl ⟨w.stops H q, hd H p⟩
end
def tot (es : List TabE) : Nat := (es.map fun b => b.2.2.length).sum
theorem tot_snoc (es : List TabE) (b : TabE) : tot (es ++ [b]) = tot es + b.2.2.length := by
  unfold tot
  rw [List.map_append, List.sum_append]
  simp
theorem tot_perm {es us : List TabE} (h : es.Perm us) : tot es = tot us := (h.map _).sum_nat
theorem sum_take (l : List Nat) (i : Nat) : (l.take i).sum ≤ l.sum := by
  conv => rhs; rw [← List.take_append_drop i l]
  rw [List.sum_append]
  exact Nat.le_add_right _ _
theorem tot_take (es : List TabE) (i : Nat) : tot (es.take i) ≤ tot es := by
  unfold tot
  rw [List.map_take]
  exact sum_take _ i
section
variable {P : Program} {w : World} {K : PySem.W.Frag} {mg : Str → Option Value} {base : Heap} {a : Nat → Addr} {d : Nat → FuncData}
def spLenT (CS : Addr) : Sp := fun vs H Q _ => ∃ (p dx x R Fi : Addr) (es : List TabE), vs = [.ref p] ∧ H p = some (.ins CS dx (fldsT x R Fi)) ∧ StRows H R es ∧ tot es ≤ 100000 ∧ ∀ H', Same H H' → Q (.int (tot es)) H'
theorem ok_lenT (T : Txt K mg a d) : FnOk P w K mg base CX0 1 (a 5004) (d 5004) ["self"] (spLenT (a 40)) := by
  refine T.F5004.ok sc_Store___len__ (fun vs H Q E h => ?_) (fun cdv A outer s H vs Q E hr h => ?_)
  · obtain ⟨p, dx, x, R, Fi, es, rfl, _⟩ := h
    rfl
  · obtain ⟨p, dx, x, R, Fi, es, rfl, hp, hS, htot, q⟩ := h
    refine ⟨_, (pss_one (ps_ret (pe_callB (id := "len")  call_len_seq (by rfl) T.z_len (by decide +kernel) (pa_cons (pe_locks (pe_lc2 (own := [("rows", 1), ("row", 2)]) (vs1 := [2]) rfl sc_Store___len__.nd (pi_values (pe_fld (pv 0) rfl)) (blkOk_by (N := ["self", "rows", "row"]) (sc := defScope s_Store___len__) (by decide +kernel)) (by decide) (fun _ _ _ _ _ => pg_name (i := 1) sc_Store___len__.nd rfl (.inl rfl)) (fun _ _ _ _ _ => pts_nil) (fun _ _ _ _ _ => (pi_keys (pv 1))) (fun _ _ _ _ _ => (pg_name (i := 2) sc_Store___len__.nd rfl (.inl rfl))) (fun _ _ _ _ _ => pts_nil) (fun _ _ _ _ _ => (pv 2)))) pa_nil)))), ?_⟩
    obtain ⟨kd, er, pk⟩ := id hS.dct
    obtain ⟨zs, z1, z2⟩ := perm_map_ex (ys := kd) (zs := rdK es) (f := fun b : TabE => ((Sum.inr b.1 : Key), V.ref b.2.1)) pk es rfl
    subst z2
    have zat : (zs.map (·.2.1)).Nodup := (z1.map _).nodup_iff.mpr hS.ats
    have zin : ∀ b ∈ zs, H b.2.1 = some (.dT (b.2.2.map fun k => (k, V.bl true))) := fun b hb => hS.inner b (z1.mem_iff.mp hb)
    have htot' : tot zs ≤ 100000 := by rw [tot_perm z1]; exact htot
    let ds : List (Addr × HO) := (R, .dK (zs.map fun b : TabE => ((Sum.inr b.1 : Key), V.ref b.2.1))) :: zs.map fun b => (b.2.1, .dT (b.2.2.map fun k => (k, V.bl true)))
    have hat : ∀ c ∈ ds, H c.1 = some c.2 ∧ Mut (some c.2) := fun c hc => by
      rcases List.mem_cons.mp hc with rfl | hc
      · exact ⟨er, trivial⟩
      · obtain ⟨b, hb, rfl⟩ := List.mem_map.mp hc
        exact ⟨zin b hb, trivial⟩
    have nd : (ds.map (·.1)).Nodup := by
      show (R :: (zs.map _).map _).Nodup
      rw [List.map_map]
      refine List.nodup_cons.mpr ⟨fun hm => ?_, zat⟩
      obtain ⟨b, hb, e⟩ := List.mem_map.mp hm
      have h1 := zin b hb
      rw [show b.2.1 = R from e, er] at h1
      cases h1
    have pno : p ∉ ds.map (·.1) := fun hm => by
      obtain ⟨c, hc, e⟩ := List.mem_map.mp hm
      have h1 := (hat c hc).1
      rw [e, hp] at h1
      rcases List.mem_cons.mp hc with h2 | h2
      · rw [h2] at h1
        cases h1
      · obtain ⟨b, hb, h3⟩ := List.mem_map.mp h2
        rw [← h3] at h1
        cases h1
    refine ⟨ds.length, locks_of ds H _ nd hat fun H2 Q2 fz fr imp => ?_⟩
    obtain ⟨od, fR⟩ := fz _ List.mem_cons_self
    have hp2 : H2 p = some (.ins (a 40) dx (fldsT x R Fi)) := by rw [fr p pno]; exact hp
    refine ⟨_, rfl, p, _, dx, _, _, rfl, hp2, T.cl_40, T.no_40__rows, fldt_r _ _ _, R, od, _, rfl, fR, fun D hD => ?_⟩
    have dno : D ∉ ds.map (·.1) := fun hm => by
      obtain ⟨c, hc, e⟩ := List.mem_map.mp hm
      obtain ⟨_, h1⟩ := fz c hc
      rw [e, hD] at h1
      cases h1
    refine lc2_out walk_values (fun i H' => ∃ acc : List V, H' D = some (.lst acc) ∧ acc.length = tot (zs.take i) ∧ Same H2 H') ⟨[], upd_same, rfl, same_upd hD⟩ (fun i H' _ hp => ?_) (fun i y H' H'' hi hp hy => ?_) (fun H' hp => ?_)
    · obtain ⟨_, _, _, s⟩ := hp
      exact s _ _ fR
    · obtain ⟨acc, a1, a2, s⟩ := hp
      obtain ⟨rfl, k, hk⟩ := hy
      obtain ⟨b, hb, e⟩ := map_at hk
      cases e
      have hbm := List.mem_of_getElem? hb
      obtain ⟨od2, fb⟩ := fz _ (List.mem_cons_of_mem _ (List.mem_map.mpr ⟨b, hbm, rfl⟩))
      have tk : tot (zs.take (i + 1)) = tot (zs.take i) + b.2.2.length := by rw [List.take_add_one, hb]; exact tot_snoc _ _
      have tle := tot_take zs (i + 1)
      refine ⟨rfl, _, rfl, b.2.1, od2, rfl, .inr ⟨_, s _ _ fb, ?_⟩⟩
      refine lc2_in walk_keysT (fun j H3 => ∃ acc : List V, H3 D = some (.lst acc) ∧ acc.length = tot (zs.take i) + j ∧ Same H2 H3) ⟨acc, a1, a2, s⟩ (fun j H3 _ hp => ?_) (fun j z H3 H4 hj hp hz => ?_) (fun H3 hp => ?_)
      · obtain ⟨_, _, _, s⟩ := hp
        exact s _ _ fb
      · obtain ⟨acc, a1, a2, s⟩ := hp
        obtain ⟨rfl, k2, v2, q2, h1, rfl, h2⟩ := hz
        rw [List.length_map] at hj
        refine ⟨rfl, _, rfl, acc, a1, ?_, acc ++ [.ref q2], upd_same, ?_, fun c o e => ?_⟩
        · show acc.length < 2 ^ 24
          omega
        · rw [List.length_append, a2]
          rfl
        · rw [upd_ne (ne_of_none e hD)]
          exact s _ _ e
      · obtain ⟨acc, a1, a2, s⟩ := hp
        rw [List.length_map] at a2
        exact ⟨acc, a1, by rw [a2, tk], s⟩
    · obtain ⟨acc, a1, a2, s⟩ := hp
      have tk : zs.take (zs.map fun b : TabE => ((Sum.inr b.1 : Key), V.ref b.2.1)).length = zs := by rw [List.length_map, List.take_length]
      rw [tk, tot_perm z1] at a2
      refine imp _ _ (fun c hc => ?_) fun H4 k1 k2 => ?_
      · obtain ⟨_, h1⟩ := fz c hc
        rw [h1]
        exact s _ _ h1
      · have h4 : H4 D = some (.lst acc) := by rw [k2 D dno]; exact a1
        refine ⟨_, _, rfl, .inl (.of h4), ?_⟩
        rw [a2]
        refine q H4 fun c o e => ?_
        by_cases hc : c ∈ ds.map (·.1)
        · obtain ⟨b, hb, rfl⟩ := List.mem_map.mp hc
          have h5 := (hat b hb).1
          rw [e] at h5
          rw [k1 b hb]
          exact h5.symm
        · rw [k2 c hc]
          refine s c o ?_
          rw [fr c hc]
          exact e
end
theorem eqvAll_tups : ∀ a b : List RowK, PyData.eqvAll (a.map tupD) (b.map tupD) = decide (a = b)
  | [], [] => by simp [PyData.eqvAll]
  | [], _ :: _ => by simp [PyData.eqvAll]
  | _ :: _, [] => by simp [PyData.eqvAll]
  | x :: a, y :: b => by
    simp only [List.map_cons, PyData.eqvAll, eqv_tup, eqvAll_tups a b]
    by_cases h1 : x = y <;> by_cases h2 : a = b <;> simp [h1, h2]
theorem eqv_tups (a b : List RowK) : PyData.eqv (.list (a.map tupD)) (.list (b.map tupD)) = decide (a = b) := by
  simp only [PyData.eqv]
  exact eqvAll_tups a b
theorem sorted_eq : ∀ {a b : List RowK}, (a.Pairwise fun x y => rowLt x y = true) → (b.Pairwise fun x y => rowLt x y = true) → (∀ r, r ∈ a ↔ r ∈ b) → a = b
  | [], [], _, _, _ => rfl
  | [], y :: _, _, _, h => absurd ((h y).mpr List.mem_cons_self) (by simp)
  | x :: _, [], _, _, h => absurd ((h x).mp List.mem_cons_self) (by simp)
  | x :: a, y :: b, ha, hb, h => by
    obtain ⟨a1, a2⟩ := List.pairwise_cons.mp ha
    obtain ⟨b1, b2⟩ := List.pairwise_cons.mp hb
    have exy : x = y := by
      rcases List.mem_cons.mp ((h x).mp List.mem_cons_self) with e | hx
      · exact e
      · rcases List.mem_cons.mp ((h y).mpr List.mem_cons_self) with e | hy
        · exact e.symm
        · have := rowLt_trans (a1 y hy) (b1 x hx)
          rw [rowLt_irrefl] at this
          cases this
    subst exy
    have hm : ∀ r, r ∈ a ↔ r ∈ b := fun r => by
      constructor
      · intro hr
        rcases List.mem_cons.mp ((h r).mp (List.mem_cons_of_mem _ hr)) with e | hx
        · have := a1 r hr
          rw [e, rowLt_irrefl] at this
          cases this
        · exact hx
      · intro hr
        rcases List.mem_cons.mp ((h r).mpr (List.mem_cons_of_mem _ hr)) with e | hx
        · have := b1 r hr
          rw [e, rowLt_irrefl] at this
          cases this
        · exact hx
    rw [sorted_eq a2 b2 hm]
theorem Srt.eq {us ws rs : List RowK} (h1 : Srt us rs) (h2 : Srt ws rs) : us = ws := sorted_eq h1.up h2.up fun r => (h1.all r).trans (h2.all r).symm
theorem SortedRows.srt {L : List (Addr × RowK)} {rs : List RowK} (h : SortedRows L rs) : Srt (L.map (·.2)) rs := ⟨h.all, List.pairwise_map.mpr h.up⟩
theorem nodup_le {α : Type} [DecidableEq α] : ∀ {l m : List α}, l.Nodup → (∀ x ∈ l, x ∈ m) → l.length ≤ m.length
  | [], _, _, _ => Nat.zero_le _
  | x :: l, m, nd, hs => by
    obtain ⟨n1, n2⟩ := List.nodup_cons.mp nd
    have hx : x ∈ m := hs x List.mem_cons_self
    have ih := nodup_le (l := l) (m := m.erase x) n2 fun y hy => (List.mem_erase_of_ne (fun e => n1 (by rw [← e]; exact hy))).mpr (hs y (List.mem_cons_of_mem _ hy))
    rw [List.length_erase_of_mem hx] at ih
    have := List.length_pos_of_mem hx
    rw [List.length_cons]
    omega
section
variable {P : Program} {w : World} {K : PySem.W.Frag} {mg : Str → Option Value} {base : Heap} {a : Nat → Addr} {d : Nat → FuncData}
/-! ### == of two schemas -/
def schB (ts : List (Str × Int)) (ks : List KeyE) (ss : List SvE) (ts' : List (Str × Int)) (ks' : List KeyE) (ss' : List SvE) : Bool := eqP (tabP ts) (tabP ts') && (eqP (keyP ks) (keyP ks') && eqP (svP ss) (svP ss'))
theorem sv_toldW {H : Hp} {ts : List (Str × Int)} {ss : List SvE} {m : Nat} {wm : Int} (hT : Tabs ts m wm) (h : ∀ b ∈ ss, SvOk H ts b) : ∀ b ∈ ss, Told H b.at_ b.tab b.ga b.cols b.cap ∧ Wd b.tab := fun b hb => by
  obtain ⟨t, ⟨w, hw, _⟩, _⟩ := h b hb
  exact ⟨t, hT.nm.wd _ (List.mem_map.mpr ⟨_, hw, rfl⟩)⟩
def spSEq (C : Addr) : Sp := fun vs H Q _ => ∃ (p q : Addr) (ts : List (Str × Int)) (ks : List KeyE) (ss : List SvE) (m n : Nat) (ts' : List (Str × Int)) (ks' : List KeyE) (ss' : List SvE) (m' n' : Nat), vs = [.ref p, .ref q] ∧ SchAt C p H ts ks ss m n ∧ SchAt C q H ts' ks' ss' m' n' ∧ Q (.bl (schB ts ks ss ts' ks' ss')) H
theorem ok_seq (T : Txt K mg a d) : FnOk P w K mg base CX0 1 (a 4404) (d 4404) ["self", "other"] (spSEq (a 34)) := by
  refine T.F4404.ok sc_Schema___eq__ (fun vs H Q E h => ?_) (fun cdv A outer s H vs Q E hr h => ?_)
  · obtain ⟨p, q, ts, ks, ss, m, n, ts', ks', ss', m', n', rfl, _⟩ := h
    rfl
  · obtain ⟨p, q, ts, ks, ss, m, n, ts', ks', ss', m', n', rfl, ⟨dx, d1, d2, d3, O⟩, ⟨dy, e1, e2, e3, O'⟩, k⟩ := h
    refine ⟨_, (pss_one (ps_ret (pe_and (pe_callB (id := "isinstance")  (C8.call_isC T.ic_34) (by rfl) T.z_isinstance (by decide +kernel) (pa_cons (pv 1) (pa_cons (pe_glob (v := .ref (a 34)) (by rfl) T.cg_34 rfl) pa_nil))) (pe_and (pe_cmpR (op_eqT (hu_of65 hr)) (pe_fld (pv 0) rfl) (pe_fld (pv 1) rfl) (nomark _)) (pe_and (pe_cmpR (op_eqT (hu_of65 hr)) (pe_fld (pv 0) rfl) (pe_fld (pv 1) rfl) (nomark _)) (pe_one (pe_cmpR (op_eqT (hu_of65 hr)) (pe_fld (pv 0) rfl) (pe_fld (pv 1) rfl) (nomark _)))))))), ?_⟩
    refine ⟨_, rfl, q, dy, _, rfl, O'.ob, true, rfl, ?_⟩
    unfold schB at k
    refine ⟨_, rfl, p, _, dx, _, _, rfl, O.ob, T.cl_34, T.no_34__tables, flds_t _ _ _, _, rfl, q, _, dy, _, _, rfl, O'.ob, T.cl_34, T.no_34__tables, flds_t _ _ _, rEqT_of (ddat_tab O.tb) (ddat_tab O'.tb) (tabP_nd O.hT) (tabP_nd O'.hT) ⟨_, rfl, ?_⟩⟩
    show if eqP (tabP ts) (tabP ts') = true then _ else _
    cases h1 : eqP (tabP ts) (tabP ts') with
    | false =>
      rw [h1] at k
      exact k
    | true =>
      rw [h1, Bool.true_and] at k
      refine ⟨_, rfl, p, _, dx, _, _, rfl, O.ob, T.cl_34, T.no_34__keys, flds_k _ _ _, _, rfl, q, _, dy, _, _, rfl, O'.ob, T.cl_34, T.no_34__keys, flds_k _ _ _, rEqT_of (ddat_key O.ky O.hK) (ddat_key O'.ky O'.hK) (keyP_nd O.hK) (keyP_nd O'.hK) ⟨_, rfl, ?_⟩⟩
      show if eqP (keyP ks) (keyP ks') = true then _ else _
      cases h2 : eqP (keyP ks) (keyP ks') with
      | false =>
        rw [h2] at k
        exact k
      | true =>
        rw [h2, Bool.true_and] at k
        exact ⟨_, rfl, p, _, dx, _, _, rfl, O.ob, T.cl_34, T.no_34__services, flds_s _ _ _, _, rfl, q, _, dy, _, _, rfl, O'.ob, T.cl_34, T.no_34__services, flds_s _ _ _, rEqT_of (ddat_sv O.sv (sv_toldW O.hT O.hS.ok)) (ddat_sv O'.sv (sv_toldW O'.hT O'.hS.ok)) (svP_nd O.hS.nm) (svP_nd O'.hS.nm) k⟩
end
theorem schB_refl {H : Hp} {ts : List (Str × Int)} {ks : List KeyE} {ss : List SvE} {m n : Nat} (hT : Tabs ts m 4) (hK : Keys H ts ks) (hS : Svcs H ts ks ss n) : schB ts ks ss ts ks ss = true := by
  unfold schB
  rw [eqP_refl (tabP_nd hT) (fun p hp => ?_), eqP_refl (keyP_nd hK) (fun p hp => ?_), eqP_refl (svP_nd hS.nm) (fun p hp => ?_)]
  · rfl
  · obtain ⟨b, hb, rfl⟩ := List.mem_map.mp hp
    exact sv_shaped (wd_strOk (sv_toldW hT hS.ok b hb).2) _ _
  · obtain ⟨b, hb, rfl⟩ := List.mem_map.mp hp
    exact ints_tup_shaped _
  · obtain ⟨b, hb, rfl⟩ := List.mem_map.mp hp
    simp [SeqAt.shaped, PyData.canLay0, PyData.depth]
/-! ### check_same -/
/-- how an error without parts goes out -/
def Er0 (C : Addr) (H : Hp) (E : XK) : Prop := E (.ref C) none H
section
variable {P : Program} {w : World} {K : PySem.W.Frag} {mg : Str → Option Value} {base : Heap} {a : Nat → Addr} {d : Nat → FuncData}
def spSame (C CM : Addr) : Sp := fun vs H Q E => ∃ (p q : Addr) (ts : List (Str × Int)) (ks : List KeyE) (ss : List SvE) (m n : Nat) (ts' : List (Str × Int)) (ks' : List KeyE) (ss' : List SvE) (m' n' : Nat), vs = [.ref p, .ref q] ∧ SchAt C p H ts ks ss m n ∧ SchAt C q H ts' ks' ss' m' n' ∧
  (schB ts ks ss ts' ks' ss' = true → Q .non H) ∧ (schB ts ks ss ts' ks' ss' = false → Er0 CM H E)
theorem ok_same (T : Txt K mg a d) : FnOk P w K mg base (L2.CX P w) 3 (a 35) (d 35) ["one", "other"] (spSame (a 34) (a 4)) := by
  have G4404 : FnOk P w K mg base CX0 1 (a 4404) (d 4404) ["self", "other"] (spSEq (a 34)) := ok_seq T
  refine T.F35.okX sc_check_same (fun vs H Q E h => ?_) (fun cdv A outer s H vs Q E hr h => ?_)
  · obtain ⟨p, q, ts, ks, ss, m, n, ts', ks', ss', m', n', rfl, _⟩ := h
    rfl
  · obtain ⟨p, q, ts, ks, ss, m, n, ts', ks', ss', m', n', rfl, hp, hq, q1, q2⟩ := h
    refine ⟨_, (pss_one (ps_if (pt_cmpR (op_neO (E := fun _ _ _ => False) G4404 (hr.mono (by decide)) (hu_of hr) T.om_34 T.ne_34 T.m_4404.at_ T.m_4404.fn T.b4404 pass0) (pv 0) (pv 1) (nomark _))
    (pss_one (ps_raise rfl (takes_of rfl rfl rfl rfl) (pmk_own0 PySem.F.excBase_ValueError T.qx_4 T.cg_4 T.kq_4 (raises_own T.bq_4 T.tq_4) (by exact rfl))))
    pss_nil)), ?_⟩
    obtain ⟨dx, d1, d2, d3, o⟩ := id hp
    obtain ⟨dy, e1, e2, e3, o'⟩ := id hq
    refine ⟨_, rfl, _, rfl, p, q, dx, dy, _, _, rfl, rfl, o.ob, o'.ob, p, q, ts, ks, ss, m, n, ts', ks', ss', m', n', rfl, hp, hq, _, rfl, ?_⟩
    cases e : schB ts ks ss ts' ks' ss' with
    | true => exact ⟨_, rfl, ifF (q1 e)⟩
    | false => exact ⟨_, rfl, ifT (q2 e)⟩
end
/-! ### the rows of two stores together -/
def tabR : List TabE → Str → List RowK
  | [], _ => []
  | b :: es, n => if b.1 = n then b.2.2 else tabR es n
theorem tabR_at : ∀ {es : List TabE}, (es.map (·.1)).Nodup → ∀ {b : TabE}, b ∈ es → tabR es b.1 = b.2.2
  | [], _, _, h => by cases h
  | c :: es, nd, b, h => by
    rw [List.map_cons] at nd
    obtain ⟨n1, n2⟩ := List.nodup_cons.mp nd
    unfold tabR
    rcases List.mem_cons.mp h with rfl | h
    · rw [if_pos rfl]
    · have ne : ¬ c.1 = b.1 := fun e => n1 (List.mem_map.mpr ⟨b, h, e.symm⟩)
      rw [if_neg ne]
      exact tabR_at n2 h
theorem tabR_no : ∀ {es : List TabE} {n : Str}, n ∉ es.map (·.1) → tabR es n = []
  | [], _, _ => rfl
  | c :: es, n, h => by
    rw [List.map_cons] at h
    unfold tabR
    have ne : ¬ c.1 = n := fun e => h (List.mem_cons.mpr (.inl e.symm))
    rw [if_neg ne]
    exact tabR_no fun z => h (List.mem_cons_of_mem _ z)
theorem inT_tabR {es : List TabE} (nd : (es.map (·.1)).Nodup) (n : Str) (r : RowK) : inT es n r = memR (tabR es n) r := by
  by_cases hm : n ∈ es.map (·.1)
  · obtain ⟨b, hb, rfl⟩ := List.mem_map.mp hm
    rw [inT_at nd hb, tabR_at nd hb]
  · rw [inT_no hm, tabR_no hm]
    rfl
theorem memR_iff {us : List RowK} {r : RowK} : memR us r = true ↔ r ∈ us := any_mem
def uniL (us vs : List RowK) : List RowK := us ++ vs.filter fun r => !memR us r
def uniR (es es' : List TabE) (n : Str) : List RowK := uniL (tabR es n) (tabR es' n)
def prj (ks : List KeyE) (n : Str) (w : Int) (rs : List RowK) : List RowK := rs.map (projR (colsOf w (markOf ks n)))
/-- what is wrong with a table: the i-th row agrees with one before it, none before does -/
def UBad (ts : List (Str × Int)) (ks : List KeyE) (U : Str → List RowK) (n : Str) (i : Nat) : Prop := ∃ w r, (n, w) ∈ ts ∧ (U n)[i]? = some r ∧ (prj ks n w ((U n).take i)).Nodup ∧ projR (colsOf w (markOf ks n)) r ∈ prj ks n w ((U n).take i)
def UGood (ts : List (Str × Int)) (ks : List KeyE) (U : Str → List RowK) (n : Str) : Prop := ∃ w, (n, w) ∈ ts ∧ (prj ks n w (U n)).Nodup
def UFlt (ts : List (Str × Int)) (ks : List KeyE) (U : Str → List RowK) (n : Str) (i : Nat) : Prop := ∃ j : Nat, (sortN (ts.map (·.1)))[j]? = some n ∧ (∀ m ∈ (sortN (ts.map (·.1))).take j, UGood ts ks U m) ∧ UBad ts ks U n i
theorem wid_one {ts : List (Str × Int)} (nd : (ts.map (·.1)).Nodup) {n : Str} {w w' : Int} (h : (n, w) ∈ ts) (h' : (n, w') ∈ ts) : w = w' := by
  rw [← widthAt_mem nd h, ← widthAt_mem nd h']
theorem nodup_take_mem {α : Type} {l : List α} {i : Nat} {x : α} (nd : l.Nodup) (h : l[i]? = some x) : x ∉ l.take i := nd_take nd h
theorem UBad.lt {ts : List (Str × Int)} {ks : List KeyE} {U : Str → List RowK} {n : Str} {i j : Nat} (ndt : (ts.map (·.1)).Nodup) (h : UBad ts ks U n i) (h' : UBad ts ks U n j) : ¬ i < j := fun lt => by
  obtain ⟨w, r, hw, hr, _, hin⟩ := h
  obtain ⟨w', r', hw', _, nd, _⟩ := h'
  have := wid_one ndt hw hw'
  subst this
  have e1 : ((U n).take j)[i]? = some r := by rw [List.getElem?_take_of_lt lt]; exact hr
  have e2 : (prj ks n w ((U n).take j))[i]? = some (projR (colsOf w (markOf ks n)) r) := by
    unfold prj
    rw [List.getElem?_map, e1]
    rfl
  have := nodup_take_mem nd e2
  have e3 : (prj ks n w ((U n).take j)).take i = prj ks n w ((U n).take i) := by
    unfold prj
    rw [← List.map_take, List.take_take, Nat.min_eq_left (by omega)]
  rw [e3] at this
  exact this hin
theorem UGood.not {ts : List (Str × Int)} {ks : List KeyE} {U : Str → List RowK} {n : Str} {i : Nat} (ndt : (ts.map (·.1)).Nodup) (g : UGood ts ks U n) (h : UBad ts ks U n i) : False := by
  obtain ⟨w, hw, nd⟩ := g
  obtain ⟨w', r, hw', hr, _, hin⟩ := h
  have := wid_one ndt hw hw'
  subst this
  have e2 : (prj ks n w (U n))[i]? = some (projR (colsOf w (markOf ks n)) r) := by
    unfold prj
    rw [List.getElem?_map, hr]
    rfl
  have := nodup_take_mem nd e2
  have e3 : (prj ks n w (U n)).take i = prj ks n w ((U n).take i) := by
    unfold prj
    rw [← List.map_take]
  rw [e3] at this
  exact this hin
theorem mem_takeL {α : Type} {l : List α} {i j : Nat} {x : α} (h : l[i]? = some x) (lt : i < j) : x ∈ l.take j := by
  refine List.mem_of_getElem? (i := i) ?_
  rw [List.getElem?_take_of_lt lt]
  exact h
theorem UFlt.uniq {ts : List (Str × Int)} {ks : List KeyE} {U : Str → List RowK} {n n' : Str} {i i' : Nat} (ndt : (ts.map (·.1)).Nodup) (h : UFlt ts ks U n i) (h' : UFlt ts ks U n' i') : n = n' ∧ i = i' := by
  obtain ⟨j, hj, g, b⟩ := h
  obtain ⟨j', hj', g', b'⟩ := h'
  have nlt : ¬ j < j' := fun lt => (g' n (mem_takeL hj lt)).not ndt b
  have ngt : ¬ j' < j := fun lt => (g n' (mem_takeL hj' lt)).not ndt b'
  have e : j = j' := by omega
  subst e
  rw [hj] at hj'
  cases hj'
  have := b.lt ndt b'
  have := b'.lt ndt b
  exact ⟨rfl, by omega⟩
theorem UFlt.notG {ts : List (Str × Int)} {ks : List KeyE} {U : Str → List RowK} {n : Str} {i : Nat} (ndt : (ts.map (·.1)).Nodup) (h : UFlt ts ks U n i) (g : ∀ m ∈ ts.map (·.1), UGood ts ks U m) : False := by
  obtain ⟨j, hj, _, b⟩ := h
  exact (g n ((sortN_perm _).mem_iff.mp (List.mem_of_getElem? hj))).not ndt b
def utot (ts : List (Str × Int)) (U : Str → List RowK) : Nat := ((ts.map (·.1)).map fun n => (U n).length).sum
/-! ### the lists of refs as things -/
theorem rowV_at {H : Hp} {p : Addr} {r : RowK} (h : RowAt H p r) : rowV H (.ref p) = r := by
  unfold rowV
  rw [tupOf_tup h]
  show (r.map kV).map unK = r
  rw [List.map_map]
  exact (List.map_congr_left (g := id) fun k _ => unK_kV k).trans (List.map_id _)
theorem rowB_at {H : Hp} {p : Addr} {r : RowK} {w : Int} (h : RowAt H p r) (hw : (r.length : Int) = w) (hk : ∀ k ∈ r, KVal k) : rowB H (.ref p) w = true := by
  unfold rowB
  rw [tupOf_tup h]
  exact good_row hw hk
def toT (b : RwE) : RwT := ⟨b.name, b.at_, b.rows.map fun x => V.ref x.1⟩
theorem rwtK_toT (es : List RwE) : rwtK (es.map toT) = rwK es := by
  unfold rwtK rwK
  rw [List.map_map]
  rfl
theorem toT_names (es : List RwE) : (es.map toT).map (·.name) = es.map (·.name) := by
  rw [List.map_map]
  rfl
theorem rowV_toT {H : Hp} {L : List (Addr × RowK)} (h : RowsAt H L) : (L.map fun x => V.ref x.1).map (rowV H) = L.map (·.2) := by
  rw [List.map_map]
  exact List.map_congr_left fun y hy => rowV_at (h y hy)
theorem projs_toT {H : Hp} {cs : List Int} {L : List (Addr × RowK)} (h : RowsAt H L) : projs H cs (L.map fun x => V.ref x.1) = (L.map (·.2)).map (projR cs) := by
  unfold projs
  rw [← rowV_toT h]
  simp only [List.map_map]
  rfl
structure UniOk (H : Hp) (ts : List (Str × Int)) (U : Str → List RowK) (b : RwE) : Prop where
  at_ : RwAt H b
  rows : b.rows.map (·.2) = U b.name
  wid : ∃ w, (b.name, w) ∈ ts ∧ w ≤ 4 ∧ ∀ r ∈ b.rows.map (·.2), (r.length : Int) = w ∧ ∀ k ∈ r, KVal k
  le : b.rows.length ≤ 500
theorem UniOk.same {H H' : Hp} {ts : List (Str × Int)} {U : Str → List RowK} {b : RwE} (h : UniOk H ts U b) (s : Same H H') : UniOk H' ts U b := ⟨h.at_.same s, h.rows, h.wid, h.le⟩
theorem UniOk.rwt {H : Hp} {ts : List (Str × Int)} {U : Str → List RowK} {b : RwE} (h : UniOk H ts U b) : RwTAt H (toT b) := by
  refine ⟨h.at_.lst, by show (b.rows.map _).length ≤ 500; rw [List.length_map]; exact h.le, fun v hv => ?_⟩
  obtain ⟨y, hy, rfl⟩ := List.mem_map.mp hv
  obtain ⟨w, _, h4, hw⟩ := h.wid
  obtain ⟨g1, g2⟩ := hw y.2 (List.mem_map.mpr ⟨y, hy, rfl⟩)
  exact .tup (h.at_.rows y hy) (by rw [List.length_map]; omega) fun z hz => by
    obtain ⟨k, hk, rfl⟩ := List.mem_map.mp hz
    exact thg_key (g2 k hk)
theorem uni_good {H : Hp} {ts : List (Str × Int)} {ks : List KeyE} {U : Str → List RowK} {b : RwE} (ndt : (ts.map (·.1)).Nodup) (h : UniOk H ts U b) : TG H ts ks (toT b) ↔ UGood ts ks U b.name := by
  constructor
  · rintro ⟨w, hw, _, g⟩
    refine ⟨w, hw, ?_⟩
    have g : (projs H (colsOf w (markOf ks b.name)) (b.rows.map fun x => V.ref x.1)).Nodup := g
    rw [projs_toT h.at_.rows, h.rows] at g
    exact g
  · rintro ⟨w, hw, g⟩
    refine ⟨w, hw, fun v hv => ?_, ?_⟩
    · obtain ⟨y, hy, rfl⟩ := List.mem_map.mp hv
      obtain ⟨w', hw', _, g'⟩ := h.wid
      have := wid_one ndt hw hw'
      subst this
      obtain ⟨g1, g2⟩ := g' y.2 (List.mem_map.mpr ⟨y, hy, rfl⟩)
      exact rowB_at (h.at_.rows y hy) g1 g2
    · show (projs H (colsOf w (markOf ks b.name)) (b.rows.map fun x => V.ref x.1)).Nodup
      rw [projs_toT h.at_.rows, h.rows]
      exact g
theorem uni_bad {H : Hp} {ts : List (Str × Int)} {ks : List KeyE} {U : Str → List RowK} {b : RwE} {v : V} (ndt : (ts.map (·.1)).Nodup) (h : UniOk H ts U b) (hb : TB H ts ks (toT b) v) : ∃ i : Nat, v = .int (i : Nat) ∧ UBad ts ks U b.name i := by
  obtain ⟨w', hw', _, g'⟩ := h.wid
  rcases hb with ⟨no, _⟩ | ⟨w, i, hw, ⟨t1, t2, u, hu, t3⟩, rfl⟩
  · exact (no (List.mem_map.mpr ⟨_, hw', rfl⟩)).elim
  · have hw : (b.name, w) ∈ ts := hw
    have := wid_one ndt hw hw'
    subst this
    have hu : (b.rows.map fun x => V.ref x.1)[i]? = some u := hu
    obtain ⟨y, hy, rfl⟩ := map_at hu
    have hym := List.mem_of_getElem? hy
    obtain ⟨g1, g2⟩ := g' y.2 (List.mem_map.mpr ⟨y, hym, rfl⟩)
    have hB := rowB_at (h.at_.rows y hym) g1 g2
    have hin : projR (colsOf w (markOf ks b.name)) (rowV H (.ref y.1)) ∈ projs H (colsOf w (markOf ks b.name)) ((b.rows.map fun x => V.ref x.1).take i) := by
      rcases t3 with z | z
      · have z : rowB H (.ref y.1) w = false := z
        rw [hB] at z
        cases z
      · exact z.2
    have eT : projs H (colsOf w (markOf ks b.name)) ((b.rows.map fun x => V.ref x.1).take i) = prj ks b.name w ((U b.name).take i) := by
      rw [← List.map_take, projs_toT (fun z hz => h.at_.rows z (List.mem_of_mem_take hz)), List.map_take, h.rows]
      rfl
    rw [eT, rowV_at (h.at_.rows y hym)] at hin
    have t2 : (projs H (colsOf w (markOf ks b.name)) ((b.rows.map fun x => V.ref x.1).take i)).Nodup := t2
    rw [eT] at t2
    exact ⟨i, rfl, w, y.2, hw, by rw [← h.rows, List.getElem?_map, hy]; rfl, t2, hin⟩
theorem uni_flt {H : Hp} {ts : List (Str × Int)} {ks : List KeyE} {U : Str → List RowK} {os : List RwE} {n : Str} {v : V} (ndt : (ts.map (·.1)).Nodup) (hp : (os.map (·.name)).Perm (ts.map (·.1))) (h : ∀ b ∈ os, UniOk H ts U b) (f : FltX H ts ks (os.map toT) n v) : ∃ i : Nat, v = .int (i : Nat) ∧ UFlt ts ks U n i := by
  obtain ⟨j, hj, g, b, hb, rfl, hbad⟩ := f
  have es : sortN ((os.map toT).map (·.name)) = sortN (ts.map (·.1)) := by
    rw [toT_names]
    obtain ⟨ys, p, s⟩ := sorted_ex (ts.map (·.1))
    rw [sortN_eq p s, sortN_eq (p.trans hp.symm) s]
  rw [es] at hj g
  obtain ⟨c, hc, rfl⟩ := List.mem_map.mp hb
  obtain ⟨i, rfl, hbd⟩ := uni_bad ndt (h c hc) hbad
  refine ⟨i, rfl, j, hj, fun m hm => ?_, hbd⟩
  obtain ⟨b', hb', e, hg⟩ := g m hm
  obtain ⟨c', hc', rfl⟩ := List.mem_map.mp hb'
  have := (uni_good ndt (h c' hc')).mp hg
  rw [show c'.name = m from e] at this
  exact this
theorem uni_tot {H : Hp} {ts : List (Str × Int)} {U : Str → List RowK} {os : List RwE} (hp : (os.map (·.name)).Perm (ts.map (·.1))) (h : ∀ b ∈ os, UniOk H ts U b) : totT (os.map toT) = utot ts U := by
  unfold totT utot
  rw [← ((hp.map fun n => (U n).length).sum_nat), List.map_map, List.map_map]
  congr 1
  refine List.map_congr_left fun b hb => ?_
  show (b.rows.map _).length = (U b.name).length
  rw [List.length_map, ← (h b hb).rows, List.length_map]
theorem ref_shaped {n : Str} {i : Int} (h : PyData.strOk n = true) : SeqAt.shaped (.tuple [.str "refused", .str n, .int i]) = true := by
  show ((PyData.tuple [.str "refused", .str n, .int i]).canLay0 && decide ((PyData.tuple [.str "refused", .str n, .int i]).depth ≤ 64)) = true
  have h2 : PyData.strOk ("refused" : Str) = true := by decide +kernel
  simp only [PyData.canLay0, PyData.canLayAll0, PyData.depth, PyData.depthAll, h, h2]
  rfl
/-! ### copies of the lists, whatever they hold -/
def prT (b : RwT) : Str × List V := (b.name, b.xs)
theorem prT_names {fs us : List RwT} (h : us.map prT = fs.map prT) : us.map (·.name) = fs.map (·.name) := by
  have := congrArg (List.map Prod.fst) h
  rw [List.map_map, List.map_map] at this
  exact this
theorem prT_mem {fs us : List RwT} (h : us.map prT = fs.map prT) {b : RwT} (hb : b ∈ us) : ∃ c ∈ fs, c.name = b.name ∧ c.xs = b.xs := by
  have : prT b ∈ fs.map prT := by rw [← h]; exact List.mem_map.mpr ⟨b, hb, rfl⟩
  obtain ⟨c, hc, e⟩ := List.mem_map.mp this
  exact ⟨c, hc, (Prod.mk.inj e).1, (Prod.mk.inj e).2⟩
theorem prT_tot {fs us : List RwT} (h : us.map prT = fs.map prT) : totT us = totT fs := by
  have := congrArg (List.map fun p : Str × List V => p.2.length) h
  rw [List.map_map, List.map_map] at this
  unfold totT
  exact congrArg List.sum this
theorem TG_tr {H H' : Hp} {ts : List (Str × Int)} {ks : List KeyE} {b c : RwT} (hn : c.name = b.name) (hx : c.xs = b.xs) (hth : ∀ v ∈ c.xs, Th1 H v) (s : Same H H') (h : TG H' ts ks b) : TG H ts ks c := by
  obtain ⟨w, h1, h2⟩ := h
  refine ⟨w, by rw [hn]; exact h1, ?_⟩
  rw [hn]
  rw [← hx] at h2
  exact tabGood_same hth s h2
theorem TB_tr {H H' : Hp} {ts : List (Str × Int)} {ks : List KeyE} {b c : RwT} {v : V} (hn : c.name = b.name) (hx : c.xs = b.xs) (hth : ∀ v ∈ c.xs, Th1 H v) (s : Same H H') (h : TB H' ts ks b v) : TB H ts ks c v := by
  rcases h with ⟨h1, h2⟩ | ⟨w, i, h1, h2, h3⟩
  · exact .inl ⟨by rw [hn]; exact h1, h2⟩
  · refine .inr ⟨w, i, by rw [hn]; exact h1, ?_, h3⟩
    rw [hn]
    rw [← hx] at h2
    exact tabBad_same hth s h2
theorem FltX_tr {H H' : Hp} {ts : List (Str × Int)} {ks : List KeyE} {fs us : List RwT} {n : Str} {v : V} (h : us.map prT = fs.map prT) (hth : ∀ b ∈ fs, ∀ v ∈ b.xs, Th1 H v) (s : Same H H') (f : FltX H' ts ks us n v) : FltX H ts ks fs n v := by
  obtain ⟨i, f1, f2, b, hb, e, f3⟩ := f
  rw [prT_names h] at f1 f2
  obtain ⟨c, hc, e1, e2⟩ := prT_mem h hb
  refine ⟨i, f1, fun m hm => ?_, c, hc, e1.trans e, TB_tr e1 e2 (hth c hc) s f3⟩
  obtain ⟨b', hb', e', g⟩ := f2 m hm
  obtain ⟨c', hc', e1', e2'⟩ := prT_mem h hb'
  exact ⟨c', hc', e1'.trans e', TG_tr e1' e2' (hth c' hc') s g⟩
theorem width_uniq {ts : List (Str × Int)} (nd : (ts.map (·.1)).Nodup) {n : Str} {w w' : Int} (h : (n, w) ∈ ts) (h' : (n, w') ∈ ts) : w = w' := by
  rw [← widthAt_mem nd h, ← widthAt_mem nd h']
theorem TabBad.uniq {H : Hp} {w : Int} {cs : List Int} {xs : List V} {i j : Nat} (h : TabBad H w cs xs i) (h' : TabBad H w cs xs j) : ¬ i < j := fun lt => by
  obtain ⟨h1, h2, v, h3, h4⟩ := h
  obtain ⟨g1, g2, _⟩ := h'
  have hm : v ∈ xs.take j := List.mem_of_getElem? (show (xs.take j)[i]? = some v by rw [List.getElem?_take, if_pos lt]; exact h3)
  rcases h4 with h4 | ⟨_, h4⟩
  · rw [g1 v hm] at h4
    cases h4
  · have e : (xs.take j).take (i + 1) = xs.take i ++ [v] := by
      rw [List.take_take, Nat.min_eq_left (by omega), take_succ_at h3]
    have nd : (projs H cs ((xs.take j).take (i + 1))).Nodup := by
      unfold projs at g2 ⊢
      rw [List.map_take]
      exact g2.sublist (List.take_sublist _ _)
    rw [e] at nd
    unfold projs at nd h4
    rw [List.map_append] at nd
    exact (List.nodup_append.mp nd).2.2 _ h4 _ (List.mem_singleton.mpr rfl) rfl
theorem TG.notTB {H : Hp} {ts : List (Str × Int)} {ks : List KeyE} {b : RwT} {v : V} (nd : (ts.map (·.1)).Nodup) (h : TG H ts ks b) (h' : TB H ts ks b v) : False := by
  obtain ⟨w, h1, h2, h3⟩ := h
  rcases h' with ⟨g1, _⟩ | ⟨w', i, g1, ⟨g2, g3, u, g4, g5⟩, _⟩
  · exact g1 (List.mem_map.mpr ⟨_, h1, rfl⟩)
  · have := width_uniq nd h1 g1
    subst this
    rcases g5 with g5 | ⟨_, g5⟩
    · rw [h2 u (List.mem_of_getElem? g4)] at g5
      cases g5
    · have ndk : (projs H (colsOf w (markOf ks b.name)) (b.xs.take (i + 1))).Nodup := by
        unfold projs at h3 ⊢
        rw [List.map_take]
        exact h3.sublist (List.take_sublist _ _)
      rw [projs_snoc g4] at ndk
      exact (List.nodup_append.mp ndk).2.2 _ g5 _ (List.mem_singleton.mpr rfl) rfl
theorem TB.uniq {H : Hp} {ts : List (Str × Int)} {ks : List KeyE} {b : RwT} {v v' : V} (nd : (ts.map (·.1)).Nodup) (h : TB H ts ks b v) (h' : TB H ts ks b v') : v = v' := by
  rcases h with ⟨h1, rfl⟩ | ⟨w, i, h1, h2, rfl⟩
  · rcases h' with ⟨_, rfl⟩ | ⟨w', i', g1, _⟩
    · rfl
    · exact absurd (List.mem_map.mpr ⟨_, g1, rfl⟩) h1
  · rcases h' with ⟨g1, _⟩ | ⟨w', j, g1, g2, rfl⟩
    · exact absurd (List.mem_map.mpr ⟨_, h1, rfl⟩) g1
    · have := width_uniq nd h1 g1
      subst this
      have : i = j := by
        have a1 := h2.uniq g2
        have a2 := g2.uniq h2
        omega
      rw [this]
theorem FltX.uniq {H : Hp} {ts : List (Str × Int)} {ks : List KeyE} {fs : List RwT} {n n' : Str} {v v' : V} (ndt : (ts.map (·.1)).Nodup) (nd : (fs.map (·.name)).Nodup) (h : FltX H ts ks fs n v) (h' : FltX H ts ks fs n' v') : n = n' ∧ v = v' := by
  obtain ⟨i, h1, h2, b, hb, e, h3⟩ := h
  obtain ⟨j, g1, g2, c, hc, e', g3⟩ := h'
  have no : ∀ {i j : Nat} {n : Str} {b : RwT} {v : V}, (sortN (fs.map (·.name)))[i]? = some n → (∀ m ∈ (sortN (fs.map (·.name))).take j, ∃ b ∈ fs, b.name = m ∧ TG H ts ks b) → b ∈ fs → b.name = n → TB H ts ks b v → ¬ i < j := fun {i j n b v} h1 g2 hb e h3 lt => by
    have hm : n ∈ (sortN (fs.map (·.name))).take j := List.mem_of_getElem? (show ((sortN (fs.map (·.name))).take j)[i]? = some n by rw [List.getElem?_take, if_pos lt]; exact h1)
    obtain ⟨d, hd, ed, hg⟩ := g2 n hm
    have : d = b := nodup_at nd hd hb (ed.trans e.symm)
    subst this
    exact hg.notTB ndt h3
  have a1 := no h1 g2 hb e h3
  have a2 := no g1 h2 hc e' g3
  have : i = j := by omega
  subst this
  rw [h1] at g1
  have en := Option.some.inj g1
  subst en
  have : b = c := nodup_at nd hb hc (e.trans e'.symm)
  subst this
  exact ⟨rfl, h3.uniq ndt g3⟩
theorem FltX.notG {H : Hp} {ts : List (Str × Int)} {ks : List KeyE} {fs : List RwT} {n : Str} {v : V} (ndt : (ts.map (·.1)).Nodup) (h : FltX H ts ks fs n v) (g : ∀ b ∈ fs, TG H ts ks b) : False := by
  obtain ⟨i, h1, h2, b, hb, e, h3⟩ := h
  exact (g b hb).notTB ndt h3
theorem mk_storeN {C CS CI CL x r : Addr} {H Gs : Hp} {ts : List (Str × Int)} {ks : List KeyE} {ss : List SvE} {mt ms : Nat} {us : List RwT} {Q' : Hp → Prop} {E : XK} {p dx : Addr} (hx : SchAt C x Gs ts ks ss mt ms) (sG : Same Gs H) (hr : DctAt H r (rwtK us)) (nd : (us.map (·.name)).Nodup)
    (hus : ∀ b ∈ us, RwTAt H b) (hlen : us.length ≤ 26) (fp : H p = none) (fdx : H dx = none) (ndx : dx ≠ p)
    (q1 : ∀ n v, FltX H ts ks us n v → ∀ H', Same H H' → Er2 CI "table" "at" (.str n) v H' E)
    (q2 : (∀ b ∈ us, TG H ts ks b) → 400 < totT us → ∀ H', Same H H' → Er1 "limit" CL (.int 400) H' E)
    (q3 : (∀ b ∈ us, TG H ts ks b) → totT us ≤ 400 → ∀ (G H' : Hp) (R Fi : Addr) (ws : List TabE), StO C CS p dx x R Fi G ts ks ss mt ms ws → (∀ b ∈ ws, ∀ c ∈ us, c.name = b.1 → Srt b.2.2 (c.xs.map (rowV H))) → Same G H' → Same H H' → (∀ b o, H b = some o → (∀ xs, o ≠ .tup xs) → Gs b = none → G b = none) → Q' H') :
    spStInitX C CS CI CL (.ref p :: ([.ref x, .ref r] ++ [])) (upd (upd H dx (.own p)) p (.ins CS dx [])) (fun u H2 => u = .non ∧ Q' H2) E := by
  have s1 := same_upd (o := .own p) fdx
  have f1 : upd H dx (.own p) p = none := by rw [upd_ne ndx.symm]; exact fp
  have s := s1.trans (same_upd (o := .ins CS dx []) f1)
  have tg : (∀ b ∈ us, TG (upd (upd H dx (.own p)) p (.ins CS dx [])) ts ks b) → ∀ b ∈ us, TG H ts ks b := fun g b hb => TG_tr rfl rfl (hus b hb).th s (g b hb)
  refine ⟨p, dx, x, r, Gs, ts, ks, ss, mt, ms, us, rfl, upd_same, hx, sG.trans s, sG.free fp, hr.same s, nd, fun b hb => (hus b hb).same s, hlen, fun n v hf H' s' => q1 n v (FltX_tr rfl (fun b hb => (hus b hb).th) s hf) H' (s.trans s'), fun g h H' s' => q2 (tg g) h H' (s.trans s'), fun g h G Hz R Fi ws O hs sGz no keep => ⟨rfl, q3 (tg g) h G Hz R Fi ws O (fun b hb c hc e => ?_) sGz (fun b u e => keep b u (ne_of_none e fp) (s _ _ e)) fun b o h nt g => no b o (ne_of_none h fp) (s _ _ h) nt g⟩⟩
  have h1 := hs b hb
  have h2 : toE (upd (upd H dx (.own p)) p (.ins CS dx [])) c ∈ us.map (toE (upd (upd H dx (.own p)) p (.ins CS dx []))) := List.mem_map.mpr ⟨c, hc, rfl⟩
  have h3 := rowsOf_at (by rw [toE_names]; exact nd) h2
  have h4 : c.xs.map (rowV (upd (upd H dx (.own p)) p (.ins CS dx []))) = c.xs.map (rowV H) := List.map_congr_left fun v hv => rowV_kp ((hus c hc).th v hv).th (Kp.same s)
  rw [toE_rows, h4] at h3
  have h5 : (toE (upd (upd H dx (.own p)) p (.ins CS dx [])) c).name = b.1 := e
  rw [h5] at h3
  rw [← h3]
  exact h1
theorem mk_storeX {C CS CI CL x r : Addr} {H Gs : Hp} {ts : List (Str × Int)} {ks : List KeyE} {ss : List SvE} {mt ms : Nat} {us : List RwT} {Q' : Hp → Prop} {E : XK} {p dx : Addr} (hx : SchAt C x Gs ts ks ss mt ms) (sG : Same Gs H) (hr : DctAt H r (rwtK us)) (nd : (us.map (·.name)).Nodup)
    (hus : ∀ b ∈ us, RwTAt H b) (hlen : us.length ≤ 26) (fp : H p = none) (fdx : H dx = none) (ndx : dx ≠ p)
    (q1 : ∀ n v, FltX H ts ks us n v → ∀ H', Same H H' → Er2 CI "table" "at" (.str n) v H' E)
    (q2 : (∀ b ∈ us, TG H ts ks b) → 400 < totT us → ∀ H', Same H H' → Er1 "limit" CL (.int 400) H' E)
    (q3 : (∀ b ∈ us, TG H ts ks b) → totT us ≤ 400 → ∀ (G H' : Hp) (R Fi : Addr) (ws : List TabE), StO C CS p dx x R Fi G ts ks ss mt ms ws → (∀ b ∈ ws, ∀ c ∈ us, c.name = b.1 → Srt b.2.2 (c.xs.map (rowV H))) → Same G H' → Same H H' → Q' H') :
    spStInitX C CS CI CL (.ref p :: ([.ref x, .ref r] ++ [])) (upd (upd H dx (.own p)) p (.ins CS dx [])) (fun u H2 => u = .non ∧ Q' H2) E :=
  mk_storeN hx sG hr nd hus hlen fp fdx ndx q1 q2 fun g h G H' R Fi ws O hs s1 s2 _ => q3 g h G H' R Fi ws O hs s1 s2
theorem tab_same {ts ts' : List (Str × Int)} (h : eqP (tabP ts) (tabP ts') = true) {n : Str} {w : Int} (hm : (n, w) ∈ ts) : (n, w) ∈ ts' := by
  unfold eqP at h
  rw [Bool.and_eq_true, List.all_eq_true] at h
  have h1 := h.2 ((Sum.inr n : Key), PyData.int w) (List.mem_map.mpr ⟨_, hm, rfl⟩)
  cases e : valP (tabP ts') (Sum.inr n : Key) with
  | none =>
    rw [show valP (tabP ts') ((Sum.inr n : Key), PyData.int w).1 = none from e] at h1
    cases h1
  | some v =>
    rw [show valP (tabP ts') ((Sum.inr n : Key), PyData.int w).1 = some v from e] at h1
    obtain ⟨q, hq, eq⟩ := List.mem_map.mp (valP_mem e)
    have e1 : q.1 = n := Sum.inr.inj (Prod.mk.inj eq).1
    have e2 : PyData.int q.2 = v := (Prod.mk.inj eq).2
    rw [← e2] at h1
    have h2 := eqv_key (.inl w) (.inl q.2)
    have h3 : PyData.eqv (.int w) (.int q.2) = true := h1
    rw [show PyData.eqv (keyD (.inl w)) (keyD (.inl q.2)) = true from h3] at h2
    have h4 : (Sum.inl w : Key) = .inl q.2 := of_decide_eq_true h2.symm
    rw [← e1, Sum.inl.inj h4]
    exact hq
theorem tab_len {ts ts' : List (Str × Int)} (h : eqP (tabP ts) (tabP ts') = true) : ts.length = ts'.length := by
  unfold eqP at h
  rw [Bool.and_eq_true, beq_iff_eq] at h
  have := h.1
  unfold tabP at this
  rwa [List.length_map, List.length_map] at this
section
variable {P : Program} {w : World} {K : PySem.W.Frag} {mg : Str → Option Value} {base : Heap} {a : Nat → Addr} {d : Nat → FuncData}
def spOr (C CS CM CI CL : Addr) : Sp := fun vs H Q E => ∃ (p dx x R Fi q dy y R' Fi' : Addr) (ts : List (Str × Int)) (ks : List KeyE) (ss : List SvE) (mt ms : Nat) (es : List TabE) (ts' : List (Str × Int)) (ks' : List KeyE) (ss' : List SvE) (mt' ms' : Nat) (es' : List TabE) (Gp : Hp), vs = [.ref p, .ref q] ∧ StO C CS p dx x R Fi Gp ts ks ss mt ms es ∧ Same Gp H ∧ StO C CS q dy y R' Fi' H ts' ks' ss' mt' ms' es' ∧
  (∀ n, (uniR es es' n).length ≤ 500) ∧
  (schB ts ks ss ts' ks' ss' = false → Er0 CM H E) ∧
  (schB ts ks ss ts' ks' ss' = true → (∀ n i, UFlt ts ks (uniR es es') n i → ∀ H', Same H H' → Er2 CI "table" "at" (.str n) (.int (i : Nat)) H' E) ∧
    ((∀ n ∈ ts.map (·.1), UGood ts ks (uniR es es') n) → 400 < utot ts (uniR es es') → ∀ H', Same H H' → Er1 "limit" CL (.int 400) H' E) ∧
    ((∀ n ∈ ts.map (·.1), UGood ts ks (uniR es es') n) → utot ts (uniR es es') ≤ 400 → ∀ (r dr R2 F2 : Addr) (G H' : Hp) (ws : List TabE), H r = none → StO C CS r dr x R2 F2 G ts ks ss mt ms ws → Same G H' → (∀ c o, H c = some o → (∀ xs, o ≠ .tup xs) → Gp c = none → G c = none) → (∀ b ∈ ws, Srt b.2.2 (uniR es es' b.1)) → Same H H' → Q (.ref r) H'))
theorem ok_or (T : Txt K mg a d) : FnOk P w K mg base (L2.CX P w) 8 (a 5006) (d 5006) ["self", "other"] (spOr (a 34) (a 40) (a 4) (a 7) (a 5)) := by
  have G35 : FnOk P w K mg base (L2.CX P w) 3 (a 35) (d 35) ["one", "other"] (spSame (a 34) (a 4)) := ok_same T
  have G4405 : FnOk P w K mg base CX0 1 (a 4405) (d 4405) ["self"] (spNms (a 34) fun ts _ => ts.map (·.1)) := ok_table_names T
  have G5001 : FnOk P w K mg base (L2.CX P w) 5 (a 5001) (d 5001) ["self", "table"] (spGetT (a 34) (a 40) (a 3)) := ok_getT T
  have G5003 : FnOk P w K mg base CX0 1 (a 5003) (d 5003) ["self", "place"] (spInT (a 40)) := ok_inT T
  have G5000 : FnOk P w K mg base (L2.CX P w) 6 (a 5000) (d 5000) ["self", "schema", "rows"] (spStInitX (a 34) (a 40) (a 7) (a 5)) := ok_stinitX T
  refine T.F5006.okX sc_Store___or__ (fun vs H Q E h => ?_) (fun cdv A outer s H vs Q E hr h => ?_)
  · obtain ⟨p, dx, x, R, Fi, q, dy, y, R', Fi', ts, ks, ss, mt, ms, es, ts', ks', ss', mt', ms', es', Gp, rfl, _⟩ := h
    rfl
  · obtain ⟨p, dx, x, R, Fi, q, dy, y, R', Fi', ts, ks, ss, mt, ms, es, ts', ks', ss', mt', ms', es', Gp, rfl, OG, sGp, O', u500, q1, q2⟩ := h
    have O := OG.same sGp
    refine ⟨_, (pss_cons (ps_expr (pe_call G35 (hr.mono (by decide)) (by rfl) T.g35 T.F35.kp T.b35 .nil (passes_call (takes_of rfl rfl rfl rfl) (fun _ _ _ _ h => h)) (pa_cons (pe_fld (pv 0) rfl) (pa_cons (pe_fld (pv 1) rfl) pa_nil))))
  (pss_cons (ps_setDc (i := 2) (own := [("table", 3)]) rfl sc_Store___or__.nd rfl rfl (DcT.sw_dict rfl rfl rfl (by decide +kernel)) (pi_list (pe_meth0 (pe_fld (pv 0) rfl) T.cl_34 T.m_4405 G4405 (hr.mono (by decide)) T.b4405 .nil pass0)) (blkOk_by (N := ["self", "other", "rows", "table", "row"]) (sc := defScope s_Store___or__) (by decide +kernel)) (fun _ _ _ _ _ => pg_name (i := 3) sc_Store___or__.nd rfl (.inr rfl)) (fun _ _ _ _ _ => pts_nil) (fun _ _ _ _ _ => (pv 3)) (fun _ _ _ _ _ => (pe_op op_cat (pe_subO (pv 0) (pv 3) T.sp_5001 G5001 (hr.mono (by decide)) T.b5001 (pAt (passN rfl))) (pe_lc (own := [("row", 4)]) rfl sc_Store___or__.nd (pi_listK (K := K) (by rfl) (pe_subO (pv 1) (pv 3) T.sp_5001 G5001 (by exact hr.mono (by decide)) T.b5001 (pAt (passN rfl)))) (blkOk_by (N := ["self", "other", "rows", "table", "row"]) (sc := { kind := .function, names := [(".0", .local), ("table", .cell), ("other", .cell), ("self", .cell)], isGenerator := false, isCoroutine := false }) (by decide +kernel)) (fun _ _ _ _ _ => pg_name (i := 4) sc_Store___or__.nd rfl (.inl rfl)) (fun _ _ _ _ _ => (pts_one (pt_cmpR (op_notinO (EX := E0) T.sp_5003 G5003 (by exact hr.mono (by decide)) T.b5003 pass0) (pe_tup (pa_cons (pv 3) (pa_cons (pv 4) pa_nil))) (pv 0) (by rfl)))) (fun _ _ _ _ _ => (pv 4))))))
  (pss_one (ps_ret (pe_make T.M_40 G5000 (hr.mono (by decide)) (by rfl) T.cg_40 T.b5000 .nil (passes_call (takes_of rfl rfl rfl rfl) (fun _ _ _ _ h => h)) (pa_cons (pe_fld (pv 0) rfl) (pa_cons (pv 2) pa_nil))))))), ?_⟩
    refine ⟨_, rfl, p, _, dx, _, _, rfl, O.ob, T.cl_40, T.no_40_schema, fldt_s _ _ _, _, rfl, q, _, dy, _, _, rfl, O'.ob, T.cl_40, T.no_40_schema, fldt_s _ _ _, x, y, ts, ks, ss, mt, ms, ts', ks', ss', mt', ms', rfl, O.sch, O'.sch, fun he => ?_, fun he => q1 he⟩
    obtain ⟨qf, ql, qs⟩ := q2 he
    have heT : eqP (tabP ts) (tabP ts') = true := by
      unfold schB at he
      rw [Bool.and_eq_true] at he
      exact he.1
    clear q1 q2 he
    obtain ⟨xd, d1, d2, d3, o⟩ := id O.sch
    obtain ⟨yd, _, _, _, o'⟩ := id O'.sch
    have ndt := o.hT.nm.nd
    have ndt' := o'.hT.nm.nd
    refine ⟨_, rfl, p, _, dx, _, _, rfl, O.ob, T.cl_40, T.no_40_schema, fldt_s _ _ _, x, xd, _, rfl, o.ob, flds_no _ _ _ (by decide +kernel) (by decide +kernel) (by decide +kernel), x, ts, ks, ss, mt, ms, rfl, O.sch, fun ln ns H1 f1 e1 p1 so1 s1 => ?_⟩
    refine ⟨ln, rfl, ⟨_, .of e1⟩, fun D hD => ?_⟩
    have nsn : ns.Nodup := p1.nodup_iff.mpr ndt
    have nsl : ns.length ≤ 5 := by rw [p1.length_eq, List.length_map, o.hT.len]; exact o.m5
    refine dc_list (K := K) (a := ln) (xs := ns.map V.str) (fun i H' => ∃ os : List RwE, H' D = some (.dK (rwK os)) ∧ os.map (·.name) = ns.take i ∧ (∀ b ∈ os, UniOk H' ts (uniR es es') b) ∧ Same H1 H') ⟨[], upd_same, rfl, (fun b hb => by cases hb), same_upd hD⟩ (fun i H' _ hp => ?_) (fun i y0 H' hy0 hp => ?_) (fun H4 hq4 => ?_)
    · obtain ⟨os, _, _, _, s⟩ := hp
      exact .of (s _ _ e1)
    · obtain ⟨os, g1, g2, g3, s⟩ := hp
      obtain ⟨n, hn, rfl⟩ := map_at hy0
      have hnm : n ∈ ns := List.mem_of_getElem? hn
      have li : i < ns.length := (List.getElem?_eq_some_iff.mp hn).1
      have osl : os.length ≤ i := by
        have := congrArg List.length g2
        rw [List.length_map, List.length_take] at this
        omega
      have s2 := s1.trans s
      have hnt : n ∈ ts.map (·.1) := p1.mem_iff.mp hnm
      have hne : n ∈ es.map (·.1) := O.names.mem_iff.mpr hnt
      obtain ⟨tw, htw, etw⟩ := List.mem_map.mp hnt
      obtain ⟨tn, wd⟩ := tw
      have etw : tn = n := etw
      subst etw
      have hne' : tn ∈ es'.map (·.1) := O'.names.mem_iff.mpr (List.mem_map.mpr ⟨_, tab_same heT htw, rfl⟩)
      have OH := O.same s2
      refine ⟨rfl, _, rfl, _, rfl, _, rfl, p, dx, _, rfl, OH.ob, p, dx, x, R, Fi, tn, ts, ks, ss, mt, ms, es, rfl, OH, fun b hb eb l L H5 hl0 hL hR s5 hl => ?_, fun hno => absurd hne hno⟩
      have OH' := O'.same (s2.trans s5)
      refine ⟨_, rfl, _, rfl, q, dy, _, rfl, OH'.ob, q, dy, y, R', Fi', tn, ts', ks', ss', mt', ms', es', rfl, OH', fun b' hb' eb' l' L' H6 hl0' hL' hR' s6 hl' => ?_, fun hno => absurd hne' hno⟩
      refine ⟨l', rfl, ⟨_, .of hl'⟩, fun D2 hD2 => ?_⟩
      have tb : tabR es tn = b.2.2 := by rw [← eb]; exact tabR_at O.rows.nd hb
      have tb' : tabR es' tn = b'.2.2 := by rw [← eb']; exact tabR_at O'.rows.nd hb'
      have eU : uniR es es' tn = (L ++ L'.filter fun z => !memR b.2.2 z.2).map (·.2) := by
        unfold uniR uniL
        rw [tb, tb', List.map_append, hL, ← hL', List.filter_map]
        rfl
      have len' := u500 tn
      rw [eU, List.length_map, List.length_append] at len'
      refine lc_list (K := K) (a := l') (xs := L'.map fun z => V.ref z.1) (fun j H7 => H7 D2 = some (.lst (((L'.take j).filter fun z => !memR b.2.2 z.2).map fun z => V.ref z.1)) ∧ Same H6 H7) ⟨upd_same, same_upd hD2⟩ (fun j H7 _ hp => .of (hp.2 _ _ hl')) (fun j v H7 hv hp => ?_) (fun H7 hp => ?_)
      · obtain ⟨g7, s7⟩ := hp
        obtain ⟨z, hz, rfl⟩ := map_at hv
        have hzm := List.mem_of_getElem? hz
        refine ⟨rfl, ?_⟩
        refine ⟨_, rfl, _, rfl, by show 2 ≤ sizeLine; decide, fun tp htp => ?_⟩
        have st := same_upd (o := .tup [.str tn, .ref z.1]) htp
        have OT := OH.same ((s5.trans s6).trans (s7.trans st))
        refine ⟨_, rfl, p, dx, _, rfl, OT.ob, p, dx, x, R, Fi, tp, z.1, tn, z.2, es, rfl, OT.ob, OT.rows, upd_same, st _ _ (s7 _ _ (hR' z hzm)), _, rfl, _, rfl, _, rfl, ?_⟩
        rw [inT_tabR O.rows.nd, tb]
        have ef : ((L'.take (j + 1)).filter fun z => !memR b.2.2 z.2) = ((L'.take j).filter fun z => !memR b.2.2 z.2) ++ [z].filter fun z => !memR b.2.2 z.2 := by
          rw [List.take_add_one, hz, List.filter_append]
          rfl
        cases hm : memR b.2.2 z.2 with
        | true =>
          refine ifF ⟨?_, s7.trans st⟩
          rw [ef, filt0 (p := fun z : Addr × RowK => !memR b.2.2 z.2) (by rw [hm]; rfl), List.append_nil]
          exact st _ _ g7
        | false =>
          refine ifT ⟨_, rfl, _, st _ _ g7, ?_, ?_, fun c o1 e2 => ?_⟩
          · rw [List.length_map]
            have h1 := List.length_filter_le (fun z : Addr × RowK => !memR b.2.2 z.2) (L'.take j)
            have h2 := O'.lens b' hb'
            rw [← hL', List.length_map] at h2
            rw [List.length_take] at h1
            exact small1000 (by omega)
          · rw [ef, filt1 (p := fun z : Addr × RowK => !memR b.2.2 z.2) (by rw [hm]; rfl), List.map_append]
            exact upd_same
          · rw [upd_ne (ne_of_none e2 hD2)]
            exact st _ _ (s7 _ _ e2)
      · obtain ⟨g7, s7⟩ := hp
        rw [List.length_map, List.take_length] at g7
        have s57 := (s5.trans s6).trans s7
        refine ⟨l, D2, _, _, rfl, rfl, s7 _ _ (s6 _ _ hl), g7, ?_, fun u hu => ?_⟩
        · rw [List.length_map, List.length_map]
          exact small1000' (by omega)
        have su := same_upd (o := .lst ((L.map fun y => V.ref y.1) ++ ((L'.filter fun z => !memR b.2.2 z.2).map fun z => V.ref z.1))) hu
        have g1' := su _ _ (s57 _ _ g1)
        have nDu : u ≠ D := (ne_of_none (s57 _ _ g1) hu).symm
        have no : valV (rwK os) (Sum.inr tn) = none := rw_no (by rw [g2]; exact nd_take nsn hn)
        have bok : UniOk (upd H7 u (.lst ((L.map fun y => V.ref y.1) ++ ((L'.filter fun z => !memR b.2.2 z.2).map fun z => V.ref z.1)))) ts (uniR es es') ⟨tn, u, L ++ L'.filter fun z => !memR b.2.2 z.2⟩ := by
          refine ⟨⟨by rw [upd_same, List.map_append], fun z hz => ?_⟩, eU.symm, ⟨wd, htw, (o.hT.wd _ htw).2, fun r hr => ?_⟩, by show (L ++ _).length ≤ 500; rw [List.length_append]; exact len'⟩
          · rcases List.mem_append.mp hz with hz | hz
            · exact su _ _ (s7 _ _ (s6 _ _ (hR z hz)))
            · exact su _ _ (s7 _ _ (hR' z (List.mem_filter.mp hz).1))
          · obtain ⟨z, hz, rfl⟩ := List.mem_map.mp hr
            rcases List.mem_append.mp hz with hz | hz
            · obtain ⟨w1, h1, h2⟩ := O.wid b hb
              rw [eb] at h1
              have := wid_one ndt h1 htw
              subst this
              exact h2 z.2 (by rw [← hL]; exact List.mem_map.mpr ⟨z, hz, rfl⟩)
            · obtain ⟨w1, h1, h2⟩ := O'.wid b' hb'
              rw [eb'] at h1
              have := wid_one ndt' h1 (tab_same heT htw)
              subst this
              exact h2 z.2 (by rw [← hL']; exact List.mem_map.mpr ⟨z, (List.mem_filter.mp hz).1, rfl⟩)
        refine ⟨_, Sum.inr tn, rfl, g1', ?_, os ++ [⟨tn, u, L ++ L'.filter fun z => !memR b.2.2 z.2⟩], ?_, ?_, fun c hc => ?_, fun c o' e' => ?_⟩
        · unfold rwK
          rw [List.length_map]
          exact small1000 (by omega)
        · rw [putK_new _ no]
          unfold rwK
          rw [List.map_append]
          exact upd_same
        · rw [List.map_append, g2, List.take_add_one, hn]
          rfl
        · have up : ∀ {c : RwE}, c.at_ ≠ D → UniOk (upd H7 u (.lst ((L.map fun y => V.ref y.1) ++ ((L'.filter fun z => !memR b.2.2 z.2).map fun z => V.ref z.1)))) ts (uniR es es') c → UniOk (upd (upd H7 u (.lst ((L.map fun y => V.ref y.1) ++ ((L'.filter fun z => !memR b.2.2 z.2).map fun z => V.ref z.1)))) D (.dK (putK (rwK os) (Sum.inr tn) (.ref u)))) ts (uniR es es') c := fun {c} nc h => ⟨h.at_.oth g1' (by intro _ z; cases z) nc, h.rows, h.wid, h.le⟩
          rcases List.mem_append.mp hc with hc | hc
          · have h1 := (g3 c hc).same (s57.trans su)
            exact up (ne_of h1.at_.lst g1' (by intro z; cases z)) h1
          · rw [List.mem_singleton.mp hc]
            exact up nDu bok
        · rw [upd_ne (ne_of_none e' hD)]
          exact su _ _ (s57 _ _ (s _ _ e'))
    · obtain ⟨os, g1, g2, g3, s⟩ := hq4
      rw [List.length_map, List.take_length] at g2
      have s14 := s1.trans s
      have O4 := O.same s14
      have pn : (os.map (·.name)).Perm (ts.map (·.1)) := by rw [g2]; exact p1
      have osl : os.length ≤ 26 := by
        have := congrArg List.length g2
        rw [List.length_map] at this
        omega
      refine ⟨_, rfl, p, _, dx, _, _, rfl, O4.ob, T.cl_40, T.no_40_schema, fldt_s _ _ _, _, rfl, fun r dr fr fdr ndr => ?_⟩
      have allG : (∀ b ∈ os.map toT, TG H4 ts ks b) → ∀ n ∈ ts.map (·.1), UGood ts ks (uniR es es') n := fun g n hn => by
        obtain ⟨b, hb, rfl⟩ := List.mem_map.mp (pn.mem_iff.mpr hn)
        exact (uni_good ndt (g3 b hb)).mp (g _ (List.mem_map.mpr ⟨b, hb, rfl⟩))
      have tot := uni_tot pn g3
      refine mk_storeN OG.sch (sGp.trans s14) (by rw [rwtK_toT]; exact .of g1) (by rw [toT_names, g2]; exact nsn) (fun b hb => ?_) (by rw [List.length_map]; exact osl) fr fdr ndr (fun n v hf H5 s5 => ?_) (fun hg ht H5 s5 => ?_) (fun hg ht G H5 R2 F2 ws O5 hs sG s5 no => ?_)
      · obtain ⟨c, hc, rfl⟩ := List.mem_map.mp hb
        exact (g3 c hc).rwt
      · obtain ⟨i, rfl, f⟩ := uni_flt ndt pn g3 hf
        exact qf n i f H5 (s14.trans s5)
      · exact ql (allG hg) (by rw [← tot]; exact ht) H5 (s14.trans s5)
      · refine qs (allG hg) (by rw [← tot]; exact ht) r dr R2 F2 G H5 ws (s14.free fr) O5 sG (fun c o h nt g => no c o (s14 _ _ h) nt g) (fun b hb => ?_) (s14.trans s5)
        have hbm : b.1 ∈ os.map (·.name) := by
          rw [pn.mem_iff]
          exact O5.names.mem_iff.mp (List.mem_map.mpr ⟨b, hb, rfl⟩)
        obtain ⟨c, hc, e⟩ := List.mem_map.mp hbm
        have h1 := hs b hb (toT c) (List.mem_map.mpr ⟨c, hc, rfl⟩) e
        have h2 : (toT c).xs.map (rowV H4) = uniR es es' b.1 := by
          rw [← e, ← (g3 c hc).rows]
          exact rowV_toT (g3 c hc).at_.rows
        rw [h2] at h1
        exact h1
end
/-! ### a store made of rows that are right, where Store.__init__ may refuse -/
theorem rowsOf_toE {H : Hp} : ∀ {es : List RwE}, (∀ b ∈ es, RowsAt H b.rows) → ∀ n, rowsOf ((es.map toT).map (toE H)) n = rowsOf es n
  | [], _, _ => rfl
  | b :: es, h, n => by
    have ih := rowsOf_toE (H := H) (es := es) (fun c hc => h c (List.mem_cons_of_mem _ hc)) n
    rw [List.map_cons, List.map_cons]
    unfold rowsOf
    rw [ih, toE_rows]
    show (if b.name = n then (b.rows.map fun x => V.ref x.1).map (rowV H) else _) = _
    rw [rowV_toT (h b List.mem_cons_self)]
theorem rwt_of {H : Hp} {w : Int} {mk : Option (List Int)} {b : RwE} (hb : RwAt H b) (hok : RowsOk w mk (b.rows.map (·.2))) (hw : w ≤ 100) (hl : b.rows.length ≤ 500) : RwTAt H (toT b) := by
  refine ⟨hb.lst, by show (b.rows.map _).length ≤ 500; rw [List.length_map]; exact hl, fun v hv => ?_⟩
  obtain ⟨y, hy, rfl⟩ := List.mem_map.mp hv
  obtain ⟨g1, g2⟩ := hok.wid y.2 (List.mem_map.mpr ⟨y, hy, rfl⟩)
  exact .tup (hb.rows y hy) (by rw [List.length_map]; omega) fun z hz => by
    obtain ⟨k, hk, rfl⟩ := List.mem_map.mp hz
    exact thg_key (g2 k hk)
theorem tg_of {H : Hp} {ts : List (Str × Int)} {ks : List KeyE} {w : Int} {b : RwE} (hb : RwAt H b) (hw : (b.name, w) ∈ ts) (hok : RowsOk w (markOf ks b.name) (b.rows.map (·.2))) : TG H ts ks (toT b) := by
  refine ⟨w, hw, fun v hv => ?_, ?_⟩
  · obtain ⟨y, hy, rfl⟩ := List.mem_map.mp hv
    obtain ⟨g1, g2⟩ := hok.wid y.2 (List.mem_map.mpr ⟨y, hy, rfl⟩)
    exact rowB_at (hb.rows y hy) g1 g2
  · show (projs H (colsOf w (markOf ks b.name)) (b.rows.map fun x => V.ref x.1)).Nodup
    rw [projs_toT hb.rows]
    exact hok.proj
theorem totT_toT (es : List RwE) : totT (es.map toT) = (es.map fun b => b.rows.length).sum := by
  unfold totT
  rw [List.map_map]
  congr 1
  exact List.map_congr_left fun b _ => by
    show (b.rows.map _).length = _
    rw [List.length_map]
theorem mk_storeE {C CS CI CL x r : Addr} {H Gs : Hp} {ts : List (Str × Int)} {ks : List KeyE} {ss : List SvE} {mt ms : Nat} {es : List RwE} {Q' : Hp → Prop} {E : XK} {p dx : Addr} (hx : SchAt C x Gs ts ks ss mt ms) (sG : Same Gs H) (hr : DctAt H r (rwK es)) (nd : (es.map (·.name)).Nodup)
    (hes : ∀ b ∈ es, RwAt H b ∧ ∃ w, (b.name, w) ∈ ts ∧ RowsOk w (markOf ks b.name) (b.rows.map (·.2))) (hsum : (es.map fun b => b.rows.length).sum ≤ 400) (hlen : es.length ≤ 26) (fp : H p = none) (fdx : H dx = none) (ndx : dx ≠ p)
    (q : ∀ (G H' : Hp) (R Fi : Addr) (us : List TabE), StO C CS p dx x R Fi G ts ks ss mt ms us → (∀ b ∈ us, Srt b.2.2 (rowsOf es b.1)) → Same G H' → Same H H' → (∀ b o, H b = some o → (∀ xs, o ≠ .tup xs) → Gs b = none → G b = none) → Q' H') :
    spStInitX C CS CI CL (.ref p :: ([.ref x, .ref r] ++ [])) (upd (upd H dx (.own p)) p (.ins CS dx [])) (fun u H2 => u = .non ∧ Q' H2) E := by
  have s1 := same_upd (o := .own p) fdx
  have f1 : upd H dx (.own p) p = none := by rw [upd_ne ndx.symm]; exact fp
  have s := s1.trans (same_upd (o := .ins CS dx []) f1)
  obtain ⟨xd, d1, d2, d3, o⟩ := id hx
  have ndt := o.hT.nm.nd
  have le4 : ∀ b ∈ es, b.rows.length ≤ 500 := fun b hb => by
    have : b.rows.length ≤ (es.map fun b => b.rows.length).sum := le_sum (List.mem_map.mpr ⟨b, hb, rfl⟩)
    omega
  have at2 : ∀ b ∈ es, RwAt (upd (upd H dx (.own p)) p (.ins CS dx [])) b := fun b hb => (hes b hb).1.same s
  have tg : ∀ b ∈ es.map toT, TG (upd (upd H dx (.own p)) p (.ins CS dx [])) ts ks b := fun b hb => by
    obtain ⟨c, hc, rfl⟩ := List.mem_map.mp hb
    obtain ⟨_, w, hw, hok⟩ := hes c hc
    exact tg_of (at2 c hc) hw hok
  refine ⟨p, dx, x, r, Gs, ts, ks, ss, mt, ms, es.map toT, rfl, upd_same, hx, sG.trans s, sG.free fp, by rw [rwtK_toT]; exact hr.same s, by rw [toT_names]; exact nd, fun b hb => ?_, by rw [List.length_map]; exact hlen, fun n v hf H' s' => (hf.notG ndt tg).elim, fun g h H' s' => ?_, fun g h G Hz R Fi ws O hs sGz no keep => ⟨rfl, q G Hz R Fi ws O (fun b hb => ?_) sGz (fun b u e => keep b u (ne_of_none e fp) (s _ _ e)) fun b o h nt g => no b o (ne_of_none h fp) (s _ _ h) nt g⟩⟩
  · obtain ⟨c, hc, rfl⟩ := List.mem_map.mp hb
    obtain ⟨_, w, hw, hok⟩ := hes c hc
    exact rwt_of (at2 c hc) hok (by have := (o.hT.wd _ hw).2; omega) (le4 c hc)
  · rw [totT_toT] at h
    omega
  · have h1 := hs b hb
    rw [rowsOf_toE fun c hc => (at2 c hc).rows] at h1
    exact h1
/-! ### the lines of numbers -/
def lineR (w : Nat) (k : Int) : RowK := (List.range w).map fun j => .inl (5 * k + (j : Nat))
def linesR (w : Nat) (f : Int) (n : Nat) : List RowK := (List.range n).map fun i => lineR w (f + (i : Nat))
theorem lineR_len (w : Nat) (k : Int) : (lineR w k).length = w := by
  unfold lineR
  rw [List.length_map, List.length_range]
theorem linesR_len (w : Nat) (f : Int) (n : Nat) : (linesR w f n).length = n := by
  unfold linesR
  rw [List.length_map, List.length_range]
theorem linesR_mem {w : Nat} {f : Int} {n : Nat} {r : RowK} (h : r ∈ linesR w f n) : ∃ k : Int, f ≤ k ∧ k < f + (n : Nat) ∧ r = lineR w k := by
  obtain ⟨i, hi, rfl⟩ := List.mem_map.mp h
  have := List.mem_range.mp hi
  exact ⟨f + (i : Nat), by omega, by omega, rfl⟩
theorem linesR_in {w : Nat} {f k : Int} {n : Nat} (h1 : f ≤ k) (h2 : k < f + (n : Nat)) : lineR w k ∈ linesR w f n := by
  refine List.mem_map.mpr ⟨(k - f).toNat, List.mem_range.mpr (by omega), ?_⟩
  show lineR w (f + ((k - f).toNat : Nat)) = lineR w k
  congr 1
  omega
theorem proj_line {w : Nat} {k c : Int} (h0 : 0 ≤ c) (h : c < w) : projR [c] (lineR w k) = [.inl (5 * k + c)] := by
  show [(lineR w k).getD c.toNat (.inl 0)] = _
  rw [List.getD_eq_getElem?_getD]
  unfold lineR
  rw [List.getElem?_map, List.getElem?_range (by omega)]
  show [Sum.inl (5 * k + ((c.toNat : Nat) : Int))] = _
  rw [Int.toNat_of_nonneg h0]
/-- what a key may be here: none, or one column -/
def MkOk (w : Nat) (mk : Option (List Int)) : Prop := mk = none ∨ ∃ c : Int, 0 ≤ c ∧ c < w ∧ mk = some [c]
theorem proj_inj {w : Nat} {mk : Option (List Int)} (hw : 1 ≤ w) (hm : MkOk w mk) {k l : Int} (h : projR (colsOf (w : Int) mk) (lineR w k) = projR (colsOf (w : Int) mk) (lineR w l)) : k = l := by
  rcases hm with rfl | ⟨c, h0, h1, rfl⟩
  · have h : projR (colsW (w : Int)) (lineR w k) = projR (colsW (w : Int)) (lineR w l) := h
    rw [projR_all (by rw [lineR_len]), projR_all (by rw [lineR_len])] at h
    have h2 := congrArg (fun r : RowK => r[0]?) h
    unfold lineR at h2
    simp only [List.getElem?_map, List.getElem?_range (show 0 < w by omega), Option.map_some, Option.some.injEq, Sum.inl.injEq] at h2
    omega
  · have h : projR [c] (lineR w k) = projR [c] (lineR w l) := h
    rw [proj_line h0 h1, proj_line h0 h1] at h
    have := (List.cons.inj h).1
    have := Sum.inl.inj this
    omega
theorem line_inj {w : Nat} (hw : 1 ≤ w) {k l : Int} (h : lineR w k = lineR w l) : k = l := proj_inj hw (.inl rfl) (by rw [h])
theorem nodup_map_on {α β : Type} {f : α → β} : ∀ {l : List α}, l.Nodup → (∀ x ∈ l, ∀ y ∈ l, f x = f y → x = y) → (l.map f).Nodup
  | [], _, _ => List.nodup_nil
  | x :: l, nd, h => by
    obtain ⟨n1, n2⟩ := List.nodup_cons.mp nd
    rw [List.map_cons]
    refine List.nodup_cons.mpr ⟨fun hm => ?_, nodup_map_on n2 fun a ha b hb => h a (List.mem_cons_of_mem _ ha) b (List.mem_cons_of_mem _ hb)⟩
    obtain ⟨y, hy, e⟩ := List.mem_map.mp hm
    have := h y (List.mem_cons_of_mem _ hy) x List.mem_cons_self e
    exact n1 (this ▸ hy)
def AllLines (w : Nat) (rs : List RowK) : Prop := ∀ r ∈ rs, ∃ k : Int, 0 ≤ k ∧ r = lineR w k
theorem AllLines.proj {w : Nat} {mk : Option (List Int)} (hw : 1 ≤ w) (hm : MkOk w mk) {rs : List RowK} (nd : rs.Nodup) (h : AllLines w rs) : (rs.map (projR (colsOf (w : Int) mk))).Nodup :=
  nodup_map_on nd fun x hx y hy e => by
    obtain ⟨k, _, rfl⟩ := h x hx
    obtain ⟨l, _, rfl⟩ := h y hy
    rw [proj_inj hw hm e]
theorem linesR_nd {w : Nat} (hw : 1 ≤ w) (f : Int) (n : Nat) : (linesR w f n).Nodup := nodup_map_on List.nodup_range fun x _ y _ e => by
  have := line_inj hw e
  omega
theorem linesR_all {w : Nat} {f : Int} (hf : 0 ≤ f) (n : Nat) : AllLines w (linesR w f n) := fun r hr => by
  obtain ⟨k, h1, _, rfl⟩ := linesR_mem hr
  exact ⟨k, by omega, rfl⟩
theorem line_ok {w : Nat} {k : Int} (h0 : 0 ≤ k) (h1 : k ≤ 1000) (hw : w ≤ 4) : ∀ x ∈ lineR w k, KVal x := fun x hx => by
  obtain ⟨j, hj, rfl⟩ := List.mem_map.mp hx
  have := List.mem_range.mp hj
  exact ⟨by omega, by omega⟩
theorem rowsOk_lines {w : Nat} {mk : Option (List Int)} {rs : List RowK} (hw : 1 ≤ w) (hm : MkOk w mk) (nd : rs.Nodup) (h : AllLines w rs) (hk : ∀ r ∈ rs, ∀ x ∈ r, KVal x) : RowsOk (w : Int) mk rs := by
  refine ⟨fun r hr => ⟨?_, hk r hr⟩, ?_⟩
  · obtain ⟨k, _, rfl⟩ := h r hr
    rw [lineR_len]
  · have h1 := List.nodup_iff_pairwise_ne.mp nd
    refine List.Pairwise.imp_of_mem (fun {a b} ha hb hab => ⟨hab, fun cs e z => ?_⟩) h1
    obtain ⟨k, _, rfl⟩ := h a ha
    obtain ⟨l, _, rfl⟩ := h b hb
    subst e
    exact hab (by rw [proj_inj hw hm (show projR (colsOf (w : Int) (some cs)) (lineR w k) = projR (colsOf (w : Int) (some cs)) (lineR w l) from z)])
/-- the row that breaks the key -/
def clashR (w : Nat) (c : Int) : RowK := (List.range w).map fun j => if ((j : Nat) : Int) = c then .inl ((j : Nat) : Int) else .inr "other"
theorem clashR_len (w : Nat) (c : Int) : (clashR w c).length = w := by
  unfold clashR
  rw [List.length_map, List.length_range]
theorem proj_clash {w : Nat} {c : Int} (h0 : 0 ≤ c) (h : c < w) : projR [c] (clashR w c) = [.inl c] := by
  show [(clashR w c).getD c.toNat (.inl 0)] = _
  rw [List.getD_eq_getElem?_getD]
  unfold clashR
  rw [List.getElem?_map, List.getElem?_range (by omega)]
  show [if ((c.toNat : Nat) : Int) = c then Sum.inl ((c.toNat : Nat) : Int) else _] = _
  rw [if_pos (by omega), Int.toNat_of_nonneg h0]
theorem wd_other : Wd "other" := ⟨by decide +kernel, by decide +kernel, by decide +kernel⟩
theorem clash_ok {w : Nat} {c : Int} (hw : w ≤ 4) : ∀ x ∈ clashR w c, KVal x := fun x hx => by
  obtain ⟨j, hj, rfl⟩ := List.mem_map.mp hx
  have := List.mem_range.mp hj
  by_cases e : ((j : Nat) : Int) = c
  · rw [if_pos e]
    exact ⟨by omega, by omega⟩
  · rw [if_neg e]
    exact wd_other
theorem clash_no {w : Nat} {c k : Int} (hw : 1 < w) (h0 : 0 ≤ c) (h : c < w) : clashR w c ≠ lineR w k := fun e => by
  have hj : ∃ j : Nat, j < w ∧ ((j : Nat) : Int) ≠ c := by
    by_cases z : c = 0
    · exact ⟨1, by omega, by omega⟩
    · exact ⟨0, by omega, by omega⟩
  obtain ⟨j, hj, ne⟩ := hj
  have h2 := congrArg (fun r : RowK => r[j]?) e
  unfold clashR lineR at h2
  simp only [List.getElem?_map, List.getElem?_range hj, Option.map_some, Option.some.injEq] at h2
  rw [if_neg ne] at h2
  cases h2
/-! ### two sorted lists together -/
theorem srt_nodup {us rs : List RowK} (h : Srt us rs) : us.Nodup := h.up.imp fun {a b} hab e => by rw [e, rowLt_irrefl] at hab; cases hab
theorem uniL_mem {xa xb p q : List RowK} (ha : Srt xa p) (hb : Srt xb q) (r : RowK) : r ∈ uniL xa xb ↔ r ∈ p ++ q := by
  unfold uniL
  rw [List.mem_append, List.mem_append, List.mem_filter, ← ha.all, ← hb.all]
  constructor
  · rintro (h | ⟨h, _⟩)
    · exact .inl h
    · exact .inr h
  · rintro (h | h)
    · exact .inl h
    · by_cases hm : memR xa r = true
      · exact .inl (memR_iff.mp hm)
      · exact .inr ⟨h, by simpa using hm⟩
theorem uniL_nd {xa xb p q : List RowK} (ha : Srt xa p) (hb : Srt xb q) : (uniL xa xb).Nodup := by
  unfold uniL
  refine List.nodup_append.mpr ⟨srt_nodup ha, (srt_nodup hb).sublist List.filter_sublist, fun x hx y hy e => ?_⟩
  have := (List.mem_filter.mp hy).2
  rw [← e, memR_iff.mpr hx] at this
  cases this
theorem srt_uni {y xa xb p q : List RowK} (ha : Srt xa p) (hb : Srt xb q) (h : Srt y (p ++ q)) : Srt y (uniL xa xb) := ⟨fun r => (h.all r).trans (uniL_mem ha hb r).symm, h.up⟩
theorem srt_same_len {y z : List RowK} (h : Srt y z) (nd : z.Nodup) : y.length = z.length := ((List.perm_ext_iff_of_nodup (srt_nodup h) nd).mpr h.all).length_eq
theorem clash36 {w : Nat} {c : Int} {ts : List (Str × Int)} {ks : List KeyE} {U : Str → List RowK} {x1 F : List RowK} {j : Nat} (hw : 1 < w) (c0 : 0 ≤ c) (c1 : c < w) (hmem : (("b" : Str), (w : Int)) ∈ ts) (hmk : markOf ks "b" = some [c]) (eU : U "b" = x1 ++ F) (nd : (x1 ++ F).Nodup) (h1 : AllLines w x1) (h0 : lineR w 0 ∈ x1)
    (hF : ∀ r ∈ F, r = clashR w c ∨ ∃ k : Int, 0 ≤ k ∧ r = lineR w k) (hj : F[j]? = some (clashR w c)) : UBad ts ks U "b" (x1.length + j) := by
  have et : (U "b").take (x1.length + j) = x1 ++ F.take j := by
    rw [eU, List.take_append, List.take_of_length_le (by omega), Nat.add_sub_cancel_left]
  have ndF : F.Nodup := (List.nodup_append.mp nd).2.1
  have all : AllLines w (x1 ++ F.take j) := fun r hr => by
    rcases List.mem_append.mp hr with hr | hr
    · exact h1 r hr
    · rcases hF r (List.mem_of_mem_take hr) with e | h
      · rw [e] at hr
        exact absurd hr (nd_take ndF hj)
      · exact h
  have nd2 : (x1 ++ F.take j).Nodup := nd.sublist ((List.Sublist.refl x1).append (List.take_sublist j F))
  refine ⟨(w : Int), clashR w c, hmem, ?_, ?_, ?_⟩
  · rw [eU, List.getElem?_append_right (by omega), Nat.add_sub_cancel_left]
    exact hj
  · rw [et]
    unfold prj
    rw [hmk]
    exact all.proj (by omega) (.inr ⟨c, c0, c1, rfl⟩) nd2
  · rw [et]
    unfold prj
    rw [hmk]
    refine List.mem_map.mpr ⟨lineR w 0, List.mem_append.mpr (.inl h0), ?_⟩
    show projR [c] (lineR w 0) = projR [c] (clashR w c)
    rw [proj_line c0 c1, proj_clash c0 c1]
    simp
theorem good36 {w : Nat} {ts : List (Str × Int)} {ks : List KeyE} {U : Str → List RowK} {n : Str} (hw : 1 ≤ w) (hm : MkOk w (markOf ks n)) (hmem : (n, (w : Int)) ∈ ts) (nd : (U n).Nodup) (h : AllLines w (U n)) : UGood ts ks U n := ⟨(w : Int), hmem, h.proj hw hm nd⟩
theorem rowsOk_clash {w : Nat} {c : Int} {rs : List RowK} (hw : 1 < w) (c0 : 0 ≤ c) (c1 : c < w) (hw4 : w ≤ 4) (h : RowsOk (w : Int) (some [c]) rs) (hl : ∀ r ∈ rs, ∃ k : Int, 0 < k ∧ r = lineR w k) : RowsOk (w : Int) (some [c]) (rs ++ [clashR w c]) := by
  refine ⟨fun r hr => ?_, List.pairwise_append.mpr ⟨h.apart, List.pairwise_singleton _ _, fun x hx y hy => ?_⟩⟩
  · rcases List.mem_append.mp hr with hr | hr
    · exact h.wid r hr
    · rw [List.mem_singleton.mp hr]
      exact ⟨by rw [clashR_len], clash_ok hw4⟩
  · rw [List.mem_singleton.mp hy]
    obtain ⟨k, hk, rfl⟩ := hl x hx
    refine ⟨fun e => clash_no hw c0 c1 e.symm, fun cs e z => ?_⟩
    cases e
    rw [proj_line c0 c1, proj_clash c0 c1] at z
    have := Sum.inl.inj (List.cons.inj z).1
    omega
theorem told36_shaped {n : Int} {ra rb : List RowK} (ha : ∀ r ∈ ra, ∀ k ∈ r, KOk k) (hb : ∀ r ∈ rb, ∀ k ∈ r, KOk k) : SeqAt.shaped (.tuple [.str "told", .int n, .list (ra.map tupD), .list (rb.map tupD)]) = true := by
  obtain ⟨a1, a2⟩ := lay_tups ha
  obtain ⟨b1, b2⟩ := lay_tups hb
  have h2 : PyData.strOk ("told" : Str) = true := by decide +kernel
  unfold SeqAt.shaped
  rw [Bool.and_eq_true]
  constructor
  · simp only [PyData.canLay0, PyData.canLayAll0, a1, b1, h2]
    rfl
  · refine decide_eq_true ?_
    simp only [PyData.depth, PyData.depthAll]
    omega
theorem at_last {xs : List V} {v : V} : atI (xs ++ [v]) (-1) = some v := by
  have h : ixN (xs ++ [v]).length (-1) = some xs.length := by
    unfold ixN
    simp
    omega
  unfold atI
  rw [h]
  show (xs ++ [v])[xs.length]? = some v
  simp
section
variable {P : Program} {w : World} {K : PySem.W.Frag} {mg : Str → Option Value} {base : Heap} {a : Nat → Addr} {d : Nat → FuncData}
def spLines : Sp := fun vs H Q _ => ∃ (w : Nat) (f l : Int), vs = [.int (w : Nat), .int f, .int l] ∧ w ≤ 4 ∧ 0 ≤ f ∧ f ≤ l ∧ l ≤ 1000 ∧
  ∀ (q : Addr) (L : List (Addr × RowK)) (H' : Hp), H q = none → Same H H' → H' q = some (.lst (L.map fun b => V.ref b.1)) → RowsAt H' L → L.map (·.2) = linesR w f (l - f).toNat → Q (.ref q) H'
theorem ok_lines (T : Txt K mg a d) : FnOk P w K mg base CX0 1 (a 47) (d 47) ["_law_width", "_law_first", "_law_last"] spLines := by
  refine T.F47.ok sc__law_lines (fun vs H Q E h => ?_) (fun cdv A outer s H vs Q E hr h => ?_)
  · obtain ⟨w, f, l, rfl, _⟩ := h
    rfl
  · obtain ⟨wd, f, l, rfl, hw, h0, h1, h2, q⟩ := h
    refine ⟨_, (pss_one (ps_ret (pe_lc (own := [("_law_k", 3)]) rfl sc__law_lines.nd (pi_range2 (by rfl) T.z_range (pa_cons (pv 1) (pa_cons (pv 2) pa_nil))) (blkOk_by (N := ["_law_width", "_law_first", "_law_last", "_law_k", "_law_at"]) (sc := defScope s__law_lines) (by decide +kernel)) (fun _ _ _ _ _ => pg_name (i := 3) sc__law_lines.nd rfl (.inr rfl)) (fun _ _ _ _ _ => pts_nil) (fun _ _ _ _ _ => (pe_callTy (T := "tuple") (r := rTupS K)  call_tuple_of (by rfl) T.z_tuple (by decide +kernel) (pa_cons (pe_lc (own := [("_law_at", 4)]) rfl sc__law_lines.nd (pi_range1 (by rfl) T.z_range (pa_cons (pv 0) pa_nil)) (blkOk_by (N := ["_law_width", "_law_first", "_law_last", "_law_k", "_law_at"]) (sc := { kind := .function, names := [(".0", .local), ("_law_k", .cell), ("tuple", .globalImplicit), ("range", .globalImplicit), ("_law_width", .cell)], isGenerator := false, isCoroutine := false }) (by decide +kernel)) (fun _ _ _ _ _ => pg_name (i := 4) sc__law_lines.nd rfl (.inl rfl)) (fun _ _ _ _ _ => pts_nil) (fun _ _ _ _ _ => (pe_op op_add (pe_op op_mul pe_int (pv 3)) (pv 4)))) pa_nil)))))), ?_⟩
    refine ⟨_, rfl, _, rfl, _, _, rfl, ⟨by omega, by omega, by omega, by omega⟩, fun D hD => ?_⟩
    refine lc_range (lo := f) (n := (l - f).toNat) (fun i H' => ∃ L : List (Addr × RowK), H' D = some (.lst (L.map fun b => V.ref b.1)) ∧ RowsAt H' L ∧ L.map (·.2) = linesR wd f i ∧ Same H H') ⟨[], upd_same, (fun b hb => by cases hb), rfl, same_upd hD⟩ (fun i H' hi hp => ?_) (fun H' hp => ?_)
    · obtain ⟨L, g1, g2, g3, s⟩ := hp
      have lL : L.length = i := by
        have := congrArg List.length g3
        rwa [List.length_map, linesR_len] at this
      refine ⟨rfl, ?_⟩
      refine ⟨_, rfl, _, rfl, by omega, by omega, fun D2 hD2 => ?_⟩
      refine lc_range (lo := 0) (n := ((wd : Nat) : Int).toNat) (fun j H2 => H2 D2 = some (.lst (((List.range j).map fun z => Sum.inl (5 * (f + (i : Nat)) + (z : Nat))).map kV)) ∧ Same H' H2) ⟨upd_same, same_upd hD2⟩ (fun j H2 hj hp => ?_) (fun H2 hp => ?_)
      · obtain ⟨e1, s1⟩ := hp
        refine ⟨rfl, _, rfl, _, _, rfl, rfl, .inl ⟨by decide, by decide⟩, _, rfl, _, _, rfl, rfl, _, e1, ?_, ?_, fun c o e => ?_⟩
        · rw [List.length_map, List.length_map, List.length_range]
          exact small1000 (by omega)
        · rw [List.range_succ, List.map_append, List.map_append, Int.zero_add]
          exact upd_same
        · rw [upd_ne (ne_of_none e hD2)]
          exact s1 _ _ e
      · obtain ⟨e1, s1⟩ := hp
        rw [Int.toNat_natCast] at e1
        refine ⟨D2, _, rfl, .inl ⟨.of e1, fun tt htt => ?_⟩⟩
        have st := same_upd (o := .tup (((List.range wd).map fun z => Sum.inl (5 * (f + (i : Nat)) + (z : Nat))).map kV)) htt
        have s2 := s1.trans st
        refine ⟨_, s2 _ _ g1, ?_, L ++ [(tt, lineR wd (f + (i : Nat)))], ?_, fun b hb => ?_, ?_, fun c o e => ?_⟩
        · rw [List.length_map]
          exact Nat.lt_of_le_of_lt (by omega : _ ≤ 1000) (by decide)
        · rw [List.map_append]
          exact upd_same
        · have nb : ∀ {c : Addr} {xs : List V}, upd H2 tt (.tup (((List.range wd).map fun z => Sum.inl (5 * (f + (i : Nat)) + (z : Nat))).map kV)) c = some (.tup xs) → upd (upd H2 tt (.tup (((List.range wd).map fun z => Sum.inl (5 * (f + (i : Nat)) + (z : Nat))).map kV))) D (.lst ((L.map fun b => V.ref b.1) ++ [.ref tt])) c = some (.tup xs) := fun {c xs} e => upd_tup (s2 _ _ g1) (by intro _ z; cases z) _ _ e
          rcases List.mem_append.mp hb with hb | hb
          · exact nb (s2 _ _ (g2 b hb))
          · rw [List.mem_singleton.mp hb]
            exact nb upd_same
        · rw [List.map_append, g3]
          unfold linesR
          rw [List.range_succ, List.map_append]
          rfl
        · rw [upd_ne (ne_of_none e hD)]
          exact s2 _ _ (s _ _ e)
    · obtain ⟨L, g1, g2, g3, s⟩ := hp
      exact q D L H' hD s g1 g2 g3
end
def ts36 (wa wb : Int) : List (Str × Int) := [("a", wa), ("b", wb)]
def ab36 : List Str := ["a", "b"]
theorem sort36 : sortN ab36 = ab36 := sortN_eq (List.Perm.refl _) (by decide +kernel)
theorem tot36 {ws : List TabE} (nd : (ws.map (·.1)).Nodup) (p : (ws.map (·.1)).Perm ab36) : tot ws = (tabR ws "a").length + (tabR ws "b").length := by
  have e : ws.map (fun b => b.2.2.length) = (ws.map (·.1)).map fun n => (tabR ws n).length := by
    rw [List.map_map]
    refine List.map_congr_left fun b hb => ?_
    show b.2.2.length = (tabR ws b.1).length
    rw [tabR_at nd hb]
  unfold tot
  rw [e, (p.map fun n => (tabR ws n).length).sum_nat]
  show _ + (_ + 0) = _
  rw [Nat.add_zero]
section
variable {P : Program} {w : World} {K : PySem.W.Frag} {mg : Str → Option Value} {base : Heap} {a : Nat → Addr} {d : Nat → FuncData}
def spUnion36 (C CS : Addr) : Sp := fun vs H Q _ => ∃ (p dx x R Fi q dy y R' Fi' : Addr) (wa wb : Int) (ks : List KeyE) (ss : List SvE) (mt ms : Nat) (es : List TabE) (ts' : List (Str × Int)) (ks' : List KeyE) (ss' : List SvE) (mt' ms' : Nat) (es' : List TabE), vs = [.ref p, .ref q] ∧ StO C CS p dx x R Fi H (ts36 wa wb) ks ss mt ms es ∧ StO C CS q dy y R' Fi' H ts' ks' ss' mt' ms' es' ∧
  (∀ n, (uniR es es' n).length ≤ 500) ∧ schB (ts36 wa wb) ks ss ts' ks' ss' = true ∧
  (∀ n i, UFlt (ts36 wa wb) ks (uniR es es') n i → ∀ (u : Addr) (H' : Hp), H u = none → Same H H' → H' u = some (.tup [.str "refused", .str n, .int (i : Nat)]) → Q (.ref u) H') ∧
  ((∀ n ∈ (ts36 wa wb).map (·.1), UGood (ts36 wa wb) ks (uniR es es') n) → 400 < utot (ts36 wa wb) (uniR es es') → ∀ (u : Addr) (H' : Hp), H u = none → Same H H' → H' u = some (.tup [.str "limit", .int 400]) → Q (.ref u) H') ∧
  ((∀ n ∈ (ts36 wa wb).map (·.1), UGood (ts36 wa wb) ks (uniR es es') n) → utot (ts36 wa wb) (uniR es es') ≤ 400 → ∀ (u qa qb : Addr) (LA LB : List (Addr × RowK)) (H' : Hp), H u = none → Same H H' → H' u = some (.tup [.str "told", .int ((LA.length + LB.length : Nat) : Int), .ref qa, .ref qb]) → H' qa = some (.lst (LA.map fun b => V.ref b.1)) → RowsAt H' LA → Srt (LA.map (·.2)) (uniR es es' "a") → H' qb = some (.lst (LB.map fun b => V.ref b.1)) → RowsAt H' LB → Srt (LB.map (·.2)) (uniR es es' "b") → Q (.ref u) H')
theorem ok_union36 (T : Txt K mg a d) : FnOk P w K mg base CX0 9 (a 48) (d 48) ["_law_one", "_law_other"] (spUnion36 (a 34) (a 40)) := by
  have G5006 : FnOk P w K mg base (L2.CX P w) 8 (a 5006) (d 5006) ["self", "other"] (spOr (a 34) (a 40) (a 4) (a 7) (a 5)) := ok_or T
  have G5001 : FnOk P w K mg base (L2.CX P w) 5 (a 5001) (d 5001) ["self", "table"] (spGetT (a 34) (a 40) (a 3)) := ok_getT T
  have G5004 : FnOk P w K mg base CX0 1 (a 5004) (d 5004) ["self"] (spLenT (a 40)) := ok_lenT T
  refine T.F48.ok sc__law_union (fun vs H Q E h => ?_) (fun cdv A outer s H vs Q E hr h => ?_)
  · obtain ⟨p, dx, x, R, Fi, q, dy, y, R', Fi', wa, wb, ks, ss, mt, ms, es, ts', ks', ss', mt', ms', es', rfl, _⟩ := h
    rfl
  · obtain ⟨p, dx, x, R, Fi, q, dy, y, R', Fi', wa, wb, ks, ss, mt, ms, es, ts', ks', ss', mt', ms', es', rfl, O, O', u500, he, q1, q2, q3⟩ := h
    refine ⟨_, (pss_cons (ps_set (i := 2) sc__law_union.nd rfl (.inl rfl) pe_non)
  (pss_cons (TM.ps_try_clauses (Wout := fun _ _ _ _ => False) rfl rfl sc__law_union.nd takes0
    (TM.Clauses.one (TM.Clauses.one TM.Clauses.nil (i := 4) rfl rfl ⟨rfl, by decide, Or.inl T.cg_5⟩ (fun ea oe cls ed pn hz hf => (pss_one (ps_set (i := 2) sc__law_union.nd rfl (.inl rfl) (pe_tup (pa_cons pe_str (pa_cons (pe_xf T.xf_5 T.no_5_limit hz hf (pv 4)) pa_nil))))))) (i := 4) rfl rfl ⟨rfl, by decide, Or.inl T.cg_7⟩ (fun ea oe cls ed pn hz hf => (pss_one (ps_set (i := 2) sc__law_union.nd rfl (.inl rfl) (pe_tup (pa_cons pe_str (pa_cons (pe_xf T.xf_7 T.no_7_table hz hf (pv 4)) (pa_cons (pe_xf T.xf_7 T.no_7_at hz hf (pv 4)) pa_nil))))))))
    (fun W pn xe tk po => (pss_cons (ps_set (i := 3) sc__law_union.nd rfl (.inl rfl) (pe_orO (pv 0) (pv 1) T.sp_5006 T.sf_40 G5006 (hr.mono (by decide)) T.b5006 (fun σ => passAt tk σ)))
      (pss_one (ps_set (i := 2) sc__law_union.nd rfl (.inl rfl) (pe_tup (pa_cons pe_str (pa_cons (pe_callB (id := "len")  (call_lenO (EX := E0) T.sp_5004 G5004 (hr.mono (by decide)) T.b5004 pass0) (by rfl) T.z_len (by decide +kernel) (pa_cons (pv 3) pa_nil)) (pa_cons (pe_subO (pv 3) pe_str T.sp_5001 G5001 (hr.mono (by decide)) T.b5001 (fun σ => passAt tk σ)) (pa_cons (pe_subO (pv 3) pe_str T.sp_5001 G5001 (hr.mono (by decide)) T.b5001 (fun σ => passAt tk σ)) pa_nil))))))))))
  (pss_one (ps_ret (pv 2))))), ?_⟩
    refine ⟨_, rfl, _, rfl, p, q, dx, dy, _, _, rfl, rfl, O.ob, O'.ob, p, dx, x, R, Fi, q, dy, y, R', Fi', ts36 wa wb, ks, ss, mt, ms, es, ts', ks', ss', mt', ms', es', H, rfl, O, Same.refl _, O', u500, fun z => (by rw [he] at z; cases z), fun _ => ⟨fun n i hf H2 s2 => ?_, fun hg ht' H2 s2 => ?_, fun hg hle r dr R2 F2 G2 H2 ws hr0 Or sG2 noG hws s2 => ⟨⟨r, rfl⟩, ?_⟩⟩⟩
    · intro xd' H3 hxd hd s3
      refine ⟨true, T.exm_7_7, fun _ ea hea => ?_, fun z => Bool.noConfusion z⟩
      refine ⟨_, rfl, rfl, rfl, xd', _, _, rfl, hd, rfl, _, rfl, rfl, rfl, xd', _, _, rfl, hd, rfl, by show 3 ≤ sizeLine; decide, fun u hu => ?_⟩
      have s13 := s2.trans s3
      exact ⟨_, rfl, q1 n i hf u _ (s13.free hu) (s13.trans (same_upd hu)) upd_same⟩
    · intro xd' H3 hxd hd s3
      refine ⟨false, T.exf_5_7, (fun z => Bool.noConfusion z), fun _ => ⟨true, T.exm_5_5, fun _ ea hea => ?_, fun z => Bool.noConfusion z⟩⟩
      refine ⟨_, rfl, rfl, rfl, xd', _, _, rfl, hd, rfl, by show 2 ≤ sizeLine; decide, fun u hu => ?_⟩
      have s13 := s2.trans s3
      exact ⟨_, rfl, q2 hg ht' u _ (s13.free hu) (s13.trans (same_upd hu)) upd_same⟩
    · have Or2 := Or.same sG2
      have pn : (ws.map (·.1)).Perm ab36 := Or.names
      have wl : ∀ n, (tabR ws n).length ≤ 500 := fun n => by
        by_cases hm : n ∈ ws.map (·.1)
        · obtain ⟨b, hb, rfl⟩ := List.mem_map.mp hm
          rw [tabR_at Or.rows.nd hb]
          exact Or.lens b hb
        · rw [tabR_no hm]
          exact Nat.zero_le _
      have et := tot36 Or.rows.nd pn
      refine ⟨_, rfl, r, dr, _, rfl, Or2.ob, r, dr, x, R2, F2, ws, rfl, Or2.ob, Or2.rows, by have := wl "a"; have := wl "b"; omega, fun H3 s3 => ⟨_, rfl, ⟨by omega, ?_⟩, ?_⟩⟩
      · have := wl "a"
        have := wl "b"
        omega
      have Or3 := Or2.same s3
      have na : ("a" : Str) ∈ ws.map (·.1) := pn.mem_iff.mpr (by unfold ab36; simp)
      have nb : ("b" : Str) ∈ ws.map (·.1) := pn.mem_iff.mpr (by unfold ab36; simp)
      refine ⟨_, rfl, r, dr, _, rfl, Or3.ob, r, dr, x, R2, F2, "a", ts36 wa wb, ks, ss, mt, ms, ws, rfl, Or3, fun ba hba eba qa LA H4 hqa0 hLA hRA s4 hqa => ?_, fun z => absurd na z⟩
      have Or4 := Or3.same s4
      refine ⟨_, rfl, r, dr, _, rfl, Or4.ob, r, dr, x, R2, F2, "b", ts36 wa wb, ks, ss, mt, ms, ws, rfl, Or4, fun bb hbb ebb qb LB H5 hqb0 hLB hRB s5 hqb => ?_, fun z => absurd nb z⟩
      refine ⟨by show 4 ≤ sizeLine; decide, fun u hu => ?_⟩
      have s05 := ((s2.trans s3).trans s4).trans s5
      have eA : (tabR ws "a").length = LA.length := by rw [← eba, tabR_at Or.rows.nd hba, ← hLA, List.length_map]
      have eB : (tabR ws "b").length = LB.length := by rw [← ebb, tabR_at Or.rows.nd hbb, ← hLB, List.length_map]
      rw [eA, eB] at et
      rw [et]
      have su := same_upd (o := .tup [.str "told", .int ((LA.length + LB.length : Nat) : Int), .ref qa, .ref qb]) hu
      refine ⟨_, rfl, q3 hg hle u qa qb LA LB _ (s05.free hu) (s05.trans su) upd_same (su _ _ (s5 _ _ hqa)) (fun z hz => su _ _ (s5 _ _ (hRA z hz))) ?_ (su _ _ hqb) (fun z hz => su _ _ (hRB z hz)) ?_⟩
      · have := hws ba hba
        rw [← hLA, eba] at this
        exact this
      · have := hws bb hbb
        rw [← hLB, ebb] at this
        exact this
end
def kvP (x y : Addr) : List (Key × V) := [(Sum.inr "a", V.ref x), (Sum.inr "b", V.ref y)]
theorem ab_ne : ("a" : Str) ≠ "b" := by decide +kernel
theorem merge2 (x y : V) : mergeK [] [((Sum.inr "a" : Key), x), (Sum.inr "b", y)] = [((Sum.inr "a" : Key), x), ((Sum.inr "b" : Key), y)] := by
  have h : ¬ ((Sum.inr ("a" : Str) : Key) = Sum.inr ("b" : Str)) := fun e => ab_ne (Sum.inr.inj e)
  simp [mergeK, putK, h]
theorem merge2r (x y : Addr) : mergeK [] [((Sum.inr "a" : Key), V.ref x), (Sum.inr "b", .ref y)] = kvP x y := merge2 _ _
theorem put_b (x y : V) : putK [((Sum.inr "a" : Key), x)] (Sum.inr "b") y = [((Sum.inr "a" : Key), x), ((Sum.inr "b" : Key), y)] := by
  have h : ¬ ((Sum.inr ("a" : Str) : Key) = Sum.inr ("b" : Str)) := fun e => ab_ne (Sum.inr.inj e)
  simp [putK, h]
/-- the keys: none, or one column of b's -/
def Ks36 (w1 : Nat) (ks : List KeyE) : Prop := ks = [] ∨ ∃ (ca : Addr) (c : Int), ks = [(("b" : Str), ca, [c])] ∧ 0 ≤ c ∧ c < w1 ∧ 1 < w1
def clashK (c : Int) (j : Nat) : Key := if ((j : Nat) : Int) = c then .inl ((j : Nat) : Int) else .inr "other"
structure S36 (pl lw lm kd od ot qa qb pa pb : Addr) (w0 w1 : Nat) (M0 M1 : Int) (ks : List KeyE) (LA LB RA RB : List (Addr × RowK)) (H : Hp) : Prop where
  pool : PoolAt H pl
  elw : H lw = some (.lst [.int (w0 : Nat), .int (w1 : Nat)])
  elm : H lm = some (.lst [.int M0, .int M1])
  ekd : H kd = some (.dK (keyK ks))
  hK : Keys H (ts36 (w0 : Nat) (w1 : Nat)) ks
  eod : H od = some (.dK (kvP qa qb))
  eot : H ot = some (.dK (kvP pa pb))
  la : H qa = some (.lst (LA.map fun b => V.ref b.1))
  lb : H qb = some (.lst (LB.map fun b => V.ref b.1))
  ra : H pa = some (.lst (RA.map fun b => V.ref b.1))
  rb : H pb = some (.lst (RB.map fun b => V.ref b.1))
  rla : RowsAt H LA
  rlb : RowsAt H LB
  rra : RowsAt H RA
  rrb : RowsAt H RB
theorem S36.same {pl lw lm kd od ot qa qb pa pb : Addr} {w0 w1 : Nat} {M0 M1 : Int} {ks : List KeyE} {LA LB RA RB : List (Addr × RowK)} {H H' : Hp} (h : S36 pl lw lm kd od ot qa qb pa pb w0 w1 M0 M1 ks LA LB RA RB H) (s : Same H H') : S36 pl lw lm kd od ot qa qb pa pb w0 w1 M0 M1 ks LA LB RA RB H' :=
  ⟨h.pool.same s, s _ _ h.elw, s _ _ h.elm, s _ _ h.ekd, h.hK.mono fun _ _ e => s _ _ e, s _ _ h.eod, s _ _ h.eot, s _ _ h.la, s _ _ h.lb, s _ _ h.ra, s _ _ h.rb, h.rla.same s, h.rlb.same s, h.rra.same s, h.rrb.same s⟩
def spLaw (K : PySem.W.Frag) : Sp := fun vs H Q _ => ∃ (p : Addr) (ns : List Int), vs = [.ref p] ∧ SqL K H p (ns.map V.int) ∧ ns.length ≤ 63 ∧ ∀ H', Q (.bl true) H'
theorem tabs36 {w0 w1 : Nat} (h0 : 1 ≤ w0) (h1 : w0 ≤ 4) (h2 : 1 ≤ w1) (h3 : w1 ≤ 4) : Tabs (ts36 (w0 : Nat) (w1 : Nat)) 2 4 := ⟨⟨rfl, by
  show (["a", "b"] : List Str).Nodup
  decide +kernel, fun s hs => by
  have hs : s ∈ (["a", "b"] : List Str) := hs
  simp only [List.mem_cons, List.not_mem_nil, or_false] at hs
  rcases hs with rfl | rfl
  · exact ⟨by decide +kernel, by decide +kernel, by decide +kernel⟩
  · exact ⟨by decide +kernel, by decide +kernel, by decide +kernel⟩⟩, fun p hp => by
  simp only [ts36, List.mem_cons, List.not_mem_nil, or_false] at hp
  rcases hp with rfl | rfl
  · exact ⟨by show (1 : Int) ≤ (w0 : Nat); omega, by show ((w0 : Nat) : Int) ≤ 4; omega⟩
  · exact ⟨by show (1 : Int) ≤ (w1 : Nat); omega, by show ((w1 : Nat) : Int) ≤ 4; omega⟩⟩
section
variable {P : Program} {w : World} {K : PySem.W.Frag} {mg : Str → Option Value} {base : Heap} {a : Nat → Addr} {d : Nat → FuncData}
theorem ok_law (T : Txt K mg a d) : FnOk P w K mg base CX0 10 (a 49) (d 49) ["_law_script"] (spLaw K) := by
  have G42 : FnOk P w K mg base CX0 1 (a 42) (d 42) ["_law_script"] (spPool K) := ok_pool T
  have G44 : FnOk P w K mg base CX0 2 (a 44) (d 44) ["_law_pool_here", "_law_many"] spDraw := ok_draw T
  have G47 : FnOk P w K mg base CX0 1 (a 47) (d 47) ["_law_width", "_law_first", "_law_last"] spLines := ok_lines T
  have G46 : FnOk P w K mg base CX0 4 (a 46) (d 46) ["_law_rows"] spLSorted := ok_lsorted T
  have G48 : FnOk P w K mg base CX0 9 (a 48) (d 48) ["_law_one", "_law_other"] (spUnion36 (a 34) (a 40)) := ok_union36 T
  have G4400 : FnOk P w K mg base CX0 5 (a 4400) (d 4400) ["self", "tables", "keys", "services"] (spSInit (a 34)) := ok_sinit T
  have G5000 : FnOk P w K mg base (L2.CX P w) 6 (a 5000) (d 5000) ["self", "schema", "rows"] (spStInitX (a 34) (a 40) (a 7) (a 5)) := ok_stinitX T
  have G5001 : FnOk P w K mg base (L2.CX P w) 5 (a 5001) (d 5001) ["self", "table"] (spGetT (a 34) (a 40) (a 3)) := ok_getT T
  refine T.F49.ok sc_law (fun vs H Q E h => ?_) (fun cdv A outer s H vs Q E hr h => ?_)
  · obtain ⟨p, ns, rfl, _⟩ := h
    rfl
  · obtain ⟨p0, ns, rfl, hS0, hl0, q⟩ := h
    refine ⟨_, (pss_cons (ps_set (i := 1) sc_law.nd rfl (.inl rfl) (pe_call G42 (hr.mono (by decide)) (by rfl) T.g42 T.F42.kp T.b42 .nil pass0 (pa_cons (pv 0) pa_nil)))
  (Evl.pss_cut (ps_set (i := 2) sc_law.nd rfl (.inl rfl) (pe_cmpR op_eq (pe_call G44 (hr.mono (by decide)) (by rfl) T.g44 T.F44.kp T.b44 .nil pass0 (pa_cons (pv 1) (pa_cons pe_int pa_nil))) pe_int (nomark _)))
  (pss_cons (ps_set (i := 3) sc_law.nd rfl (.inl rfl) (pe_lst (pa_cons (pe_op op_add pe_int (pe_call G44 (hr.mono (by decide)) (by rfl) T.g44 T.F44.kp T.b44 .nil pass0 (pa_cons (pv 1) (pa_cons pe_int pa_nil)))) (pa_cons (pe_op op_add pe_int (pe_call G44 (hr.mono (by decide)) (by rfl) T.g44 T.F44.kp T.b44 .nil pass0 (pa_cons (pv 1) (pa_cons pe_int pa_nil)))) pa_nil))))
  (pss_cons (ps_set (i := 4) sc_law.nd rfl (.inl rfl) (pe_lst (pa_cons (pe_op op_add pe_int (pe_call G44 (hr.mono (by decide)) (by rfl) T.g44 T.F44.kp T.b44 .nil pass0 (pa_cons (pv 1) (pa_cons pe_int pa_nil)))) (pa_cons (pe_op op_add pe_int (pe_call G44 (hr.mono (by decide)) (by rfl) T.g44 T.F44.kp T.b44 .nil pass0 (pa_cons (pv 1) (pa_cons pe_int pa_nil)))) pa_nil))))
  (pss_cons (ps_set (i := 5) sc_law.nd rfl (.inl rfl) (pe_op op_sub (pe_op op_sub (pe_op op_add pe_int (pe_call G44 (hr.mono (by decide)) (by rfl) T.g44 T.F44.kp T.b44 .nil pass0 (pa_cons (pv 1) (pa_cons pe_int pa_nil)))) (pe_ix ix_list (pv 4) pe_int (fun _ _ => rfl))) (pe_ix ix_list (pv 4) pe_int (fun _ _ => rfl))))
  (pss_cons (ps_set (i := 6) sc_law.nd rfl (.inl rfl) (pe_call G44 (hr.mono (by decide)) (by rfl) T.g44 T.F44.kp T.b44 .nil pass0 (pa_cons (pv 1) (pa_cons (pe_op op_add (pv 5) pe_int) pa_nil))))
  (pss_cons (ps_set (i := 7) sc_law.nd rfl (.inr rfl) pe_dnewK)
  (Evl.pss_cut (ps_if (pt_cmpR op_gt (pe_ix ix_list (pv 3) pe_int (fun _ _ => rfl)) pe_int (nomark _))
    (pss_one (ps_dput (hu_of hr) (pv 7) pe_str (pe_tup (pa_cons (pe_call G44 (hr.mono (by decide)) (by rfl) T.g44 T.F44.kp T.b44 .nil pass0 (pa_cons (pv 1) (pa_cons (pe_ix ix_list (pv 3) pe_int (fun _ _ => rfl)) pa_nil))) pa_nil)) rfl))
    pss_nil)
  (pss_cons (ps_set (i := 8) sc_law.nd rfl (.inr rfl) (pe_disp (pps_cons pe_str (pe_call G47 (hr.mono (by decide)) (by rfl) T.g47 T.F47.kp T.b47 .nil pass0 (pa_cons (pe_ix ix_list (pv 3) pe_int (fun _ _ => rfl)) (pa_cons pe_int (pa_cons (pe_ix ix_list (pv 4) pe_int (fun _ _ => rfl)) pa_nil)))) (pps_cons pe_str (pe_call G47 (hr.mono (by decide)) (by rfl) T.g47 T.F47.kp T.b47 .nil pass0 (pa_cons (pe_ix ix_list (pv 3) pe_int (fun _ _ => rfl)) (pa_cons pe_int (pa_cons (pe_ix ix_list (pv 4) pe_int (fun _ _ => rfl)) pa_nil)))) pps_nil)) (by rfl) (by rfl) (fun z => by cases z) (by decide)))
  (pss_cons (ps_set (i := 9) sc_law.nd rfl (.inl rfl) (pe_op op_sub (pe_ix ix_list (pv 4) pe_int (fun _ _ => rfl)) (pe_call G44 (hr.mono (by decide)) (by rfl) T.g44 T.F44.kp T.b44 .nil pass0 (pa_cons (pv 1) (pa_cons pe_int pa_nil)))))
  (pss_cons (ps_set (i := 10) sc_law.nd rfl (.inl rfl) (pe_op op_sub (pe_ix ix_list (pv 4) pe_int (fun _ _ => rfl)) (pe_call G44 (hr.mono (by decide)) (by rfl) T.g44 T.F44.kp T.b44 .nil pass0 (pa_cons (pv 1) (pa_cons pe_int pa_nil)))))
  (pss_cons (ps_set (i := 11) sc_law.nd rfl (.inl rfl) (pe_disp (pps_cons pe_str (pe_call G47 (hr.mono (by decide)) (by rfl) T.g47 T.F47.kp T.b47 .nil pass0 (pa_cons (pe_ix ix_list (pv 3) pe_int (fun _ _ => rfl)) (pa_cons (pv 9) (pa_cons (pe_op op_add (pe_ix ix_list (pv 4) pe_int (fun _ _ => rfl)) (pv 6)) pa_nil)))) pps_nil) (by rfl) (by rfl) (fun z => by cases z) (by decide)))
  (pss_cons (ps_dput (hu_of hr) (pv 11) pe_str (pe_call G47 (hr.mono (by decide)) (by rfl) T.g47 T.F47.kp T.b47 .nil pass0 (pa_cons (pe_ix ix_list (pv 3) pe_int (fun _ _ => rfl)) (pa_cons (pv 10) (pa_cons (pe_op op_sub (pe_op op_add (pe_ix ix_list (pv 4) pe_int (fun _ _ => rfl)) (pv 5)) (pv 6)) pa_nil)))) rfl)
  (Evl.pss_cut (ps_set (i := 2) sc_law.nd rfl (.inl rfl) (pe_and (pv 2) (pe_one (pe_cmp (pc_din (hu_of hr) pe_str (pv 7)) rfl))))
  (Evl.pss_cut (ps_if (pt_val (pv 2))
    (pss_one (ps_expr (pe_bm PySem.F.plainAttrs_list PySem.F.slot_list_append PySem.F.type_list_append mt_append (pe_dget (hu_of hr) (pv 11) pe_str (fun _ _ => rfl)) (pa_cons (pe_callTy (T := "tuple")  call_tuple_of (by rfl) T.z_tuple (by decide +kernel) (pa_cons (pe_lc (own := [("_law_at", 18)]) rfl sc_law.nd (pi_range1 (by rfl) T.z_range (pa_cons (pe_ix ix_list (pv 3) pe_int (fun _ _ => rfl)) pa_nil)) (blkOk_by (N := ["_law_script", "_law_pool_here", "_law_clash", "_law_widths", "_law_many", "_law_left", "_law_more", "_law_keys", "_law_one", "_law_first", "_law_last", "_law_other", "_law_schema", "_law_right", "_law_rows", "_law_new", "_law_due", "_law_k", "_law_at", "_law_row"]) (sc := defScope s_law) (by decide +kernel)) (fun _ _ _ _ _ => pg_name (i := 18) sc_law.nd rfl (.inl rfl)) (fun _ _ _ _ _ => pts_nil) (fun _ _ _ _ _ => (pe_ifExp (pt_cmpR (r := rIn K false) op_in_seq (pv 18) (pe_dget (hu_of hr) (pv 7) pe_str (fun _ _ => rfl)) (by rfl)) (pv 18) pe_str))) pa_nil)) pa_nil))))
    pss_nil)
  (pss_cons (ps_set (i := 12) sc_law.nd rfl (.inl rfl) (pe_make T.M_34 G4400 (hr.mono (by decide)) (by rfl) T.cg_34 T.b4400 .nil pass0 (pa_cons (pe_disp (pps_cons pe_str (pe_ix ix_list (pv 3) pe_int (fun _ _ => rfl)) (pps_cons pe_str (pe_ix ix_list (pv 3) pe_int (fun _ _ => rfl)) pps_nil)) (by rfl) (by rfl) (fun z => by cases z) (by decide)) (pa_cons (pv 7) (pa_cons (pe_disp (pps_cons pe_str (pe_tup (pa_cons pe_str (pa_cons (pe_tup pa_nil) (pa_cons pe_non pa_nil)))) pps_nil) (by rfl) (by rfl) (fun z => by cases z) (by decide)) pa_nil)))))
  (pss_cons (ps_set (i := 5) sc_law.nd rfl (.inl rfl) (pe_make T.M_40 G5000 (hr.mono (by decide)) (by rfl) T.cg_40 T.b5000 .nil (passN rfl) (pa_cons (pv 12) (pa_cons (pe_disp (pps_cons pe_str (pe_callTy (T := "list")  call_list_of (by rfl) T.z_list (by decide +kernel) (pa_cons (pe_dget (hu_of hr) (pv 8) pe_str (fun _ _ => rfl)) pa_nil)) (pps_cons pe_str (pe_callTy (T := "list")  call_list_of (by rfl) T.z_list (by decide +kernel) (pa_cons (pe_dget (hu_of hr) (pv 8) pe_str (fun _ _ => rfl)) pa_nil)) pps_nil)) (by rfl) (by rfl) (fun z => by cases z) (by decide)) pa_nil))))
  (pss_cons (ps_set (i := 13) sc_law.nd rfl (.inl rfl) (pe_make T.M_40 G5000 (hr.mono (by decide)) (by rfl) T.cg_40 T.b5000 .nil (passN rfl) (pa_cons (pv 12) (pa_cons (pe_disp (pps_cons pe_str (pe_callTy (T := "list")  call_list_of (by rfl) T.z_list (by decide +kernel) (pa_cons (pe_dget (hu_of hr) (pv 11) pe_str (fun _ _ => rfl)) pa_nil)) (pps_cons pe_str (pe_callTy (T := "list")  call_list_of (by rfl) T.z_list (by decide +kernel) (pa_cons (pe_dget (hu_of hr) (pv 11) pe_str (fun _ _ => rfl)) pa_nil)) pps_nil)) (by rfl) (by rfl) (fun z => by cases z) (by decide)) pa_nil))))
  (pss_cons (ps_set (i := 14) sc_law.nd rfl (.inl rfl) (pe_lst (pa_cons (pe_call G46 (hr.mono (by decide)) (by rfl) T.g46 T.F46.kp T.b46 .nil pass0 (pa_cons (pe_op op_cat (pe_dget (hu_of hr) (pv 8) pe_str (fun _ _ => rfl)) (pe_dget (hu_of hr) (pv 11) pe_str (fun _ _ => rfl))) pa_nil)) (pa_cons (pe_call G46 (hr.mono (by decide)) (by rfl) T.g46 T.F46.kp T.b46 .nil pass0 (pa_cons (pe_op op_cat (pe_dget (hu_of hr) (pv 8) pe_str (fun _ _ => rfl)) (pe_dget (hu_of hr) (pv 11) pe_str (fun _ _ => rfl))) pa_nil)) pa_nil))))
  (pss_cons (ps_setLc (i := 15) (own := [("_law_row", 19)]) rfl sc_law.nd rfl rfl (sw_true rfl rfl rfl (by decide +kernel)) (pi_list (pe_call G46 (hr.mono (by decide)) (by rfl) T.g46 T.F46.kp T.b46 .nil pass0 (pa_cons (pe_dget (hu_of hr) (pv 11) pe_str (fun _ _ => rfl)) pa_nil))) (blkOk_by (N := ["_law_script", "_law_pool_here", "_law_clash", "_law_widths", "_law_many", "_law_left", "_law_more", "_law_keys", "_law_one", "_law_first", "_law_last", "_law_other", "_law_schema", "_law_right", "_law_rows", "_law_new", "_law_due", "_law_k", "_law_at", "_law_row"]) (sc := defScope s_law) (by decide +kernel)) (fun _ _ _ _ _ => pg_name (i := 19) sc_law.nd rfl (.inl rfl)) (fun _ _ _ _ _ => (pts_one (pt_cmpR (r := rNotInD K) (op_notInD (hu_of65 hr)) (pv 19) (pe_dget (hu_of hr) (pv 8) pe_str (fun _ _ => rfl)) (by rfl)))) (fun _ _ _ _ _ => (pv 19)))
  (pss_cons (ps_set (i := 16) sc_law.nd rfl (.inl rfl) (pe_tup (pa_cons pe_str (pa_cons (pe_op op_add (pe_callB (id := "len")  call_len_seq (by rfl) T.z_len (by decide +kernel) (pa_cons (pe_ix ix_list (pv 14) pe_int (fun _ _ => rfl)) pa_nil)) (pe_callB (id := "len")  call_len_seq (by rfl) T.z_len (by decide +kernel) (pa_cons (pe_ix ix_list (pv 14) pe_int (fun _ _ => rfl)) pa_nil))) (pa_cons (pe_ix ix_list (pv 14) pe_int (fun _ _ => rfl)) (pa_cons (pe_ix ix_list (pv 14) pe_int (fun _ _ => rfl)) pa_nil))))))
  (Evl.pss_cut (ps_if (pt_cmpR op_gt (pe_op op_add (pe_callB (id := "len")  call_len_seq (by rfl) T.z_len (by decide +kernel) (pa_cons (pe_ix ix_list (pv 14) pe_int (fun _ _ => rfl)) pa_nil)) (pe_callB (id := "len")  call_len_seq (by rfl) T.z_len (by decide +kernel) (pa_cons (pe_ix ix_list (pv 14) pe_int (fun _ _ => rfl)) pa_nil))) pe_int (nomark _))
    (pss_one (ps_set (i := 16) sc_law.nd rfl (.inl rfl) (pe_tup (pa_cons pe_str (pa_cons pe_int pa_nil)))))
    pss_nil)
  (Evl.pss_cut (ps_if (pt_val (pv 2))
    (pss_one (ps_set (i := 16) sc_law.nd rfl (.inl rfl) (pe_tup (pa_cons pe_str (pa_cons pe_str (pa_cons (pe_op op_add (pe_ix ix_list (pv 4) pe_int (fun _ _ => rfl)) (pe_bm PySem.F.plainAttrs_list PySem.F.slot_list_index PySem.F.type_list_index (mt_indexD (hu_of65 hr)) (pv 15) (pa_cons (pe_ix ix_list (pe_dget (hu_of hr) (pv 11) pe_str (fun _ _ => rfl)) (pe_un un_neg pe_int) (fun _ _ => rfl)) pa_nil))) pa_nil))))))
    pss_nil)
  (pss_cons (ps_for PassesOwn.never rfl (pi_range1 (by rfl) T.z_range (pa_cons pe_int pa_nil)) (pg_name (i := 17) sc_law.nd rfl (.inl rfl))
    (pss_one (ps_if (pt_cmpR (op_neD (hu_of64 hr)) (pe_call G48 (hr.mono (by decide)) (by rfl) T.g48 T.F48.kp T.b48 .nil pass0 (pa_cons (pv 5) (pa_cons (pv 13) pa_nil))) (pv 16) (nomark _))
        (pss_one (ps_ret pe_bl))
        pss_nil)))
  (pss_one (ps_ret (pe_and (pe_cmpR (op_eqD (hu_of64 hr)) (pe_subO (pv 5) pe_str T.sp_5001 G5001 (hr.mono (by decide)) T.b5001 (pAt (passN rfl))) (pe_call G46 (hr.mono (by decide)) (by rfl) T.g46 T.F46.kp T.b46 .nil pass0 (pa_cons (pe_dget (hu_of hr) (pv 8) pe_str (fun _ _ => rfl)) pa_nil)) (nomark _)) (pe_one (pe_cmpR (op_eqD (hu_of64 hr)) (pe_subO (pv 13) pe_str T.sp_5001 G5001 (hr.mono (by decide)) T.b5001 (pAt (passN rfl))) (pe_call G46 (hr.mono (by decide)) (by rfl) T.g46 T.F46.kp T.b46 .nil pass0 (pa_cons (pe_dget (hu_of hr) (pv 11) pe_str (fun _ _ => rfl)) pa_nil)) (nomark _)))))))))))))))))))))))))))))), ?_⟩
    refine ⟨_, rfl, p0, ns, rfl, hS0, hl0, fun pl H1 np hP s1 => ?_⟩
    refine ⟨fun σ H' => ∃ cl : Bool, σ = [some (.ref p0), some (.ref pl), some (.bl cl), none, none, none, none, none, none, none, none, none, none, none, none, none, none, none, none, none] ∧ PoolAt H' pl, ?_, ?_⟩
    · exact ⟨_, rfl, pl, 3, rfl, hP, by decide, by decide, fun un H2 un0 un1 C2 => ⟨rfl, _, rfl, C2.1⟩⟩
    rintro σ H2 ⟨cl, rfl, P2⟩
    clear hP s1 H1 hS0 hl0 np
    refine ⟨_, rfl, pl, 3, rfl, P2, by decide, by decide, fun d0 H3 d00 d01 C3 => ⟨_, _, rfl, rfl, _, rfl, pl, 3, rfl, C3.1, by decide, by decide, fun d1 H4 d10 d11 C4 => ⟨_, _, rfl, rfl, by show 2 ≤ sizeLine; decide, fun lw hlw => ?_⟩⟩⟩
    obtain ⟨w0, hw0⟩ : ∃ w0 : Nat, 1 + d0 = (w0 : Nat) := ⟨(1 + d0).toNat, by omega⟩
    obtain ⟨w1, hw1⟩ : ∃ w1 : Nat, 1 + d1 = (w1 : Nat) := ⟨(1 + d1).toNat, by omega⟩
    have w01 : 1 ≤ w0 := by omega
    have w03 : w0 ≤ 3 := by omega
    have w11 : 1 ≤ w1 := by omega
    have w13 : w1 ≤ 3 := by omega
    have nlw : lw ≠ pl := pool_ne' C4.1 hlw
    have P5 := C4.1.same (same_upd (o := .lst [.int (1 + d0), .int (1 + d1)]) hlw)
    have elw : upd H4 lw (.lst [.int (1 + d0), .int (1 + d1)]) lw = some (.lst [.int (w0 : Nat), .int (w1 : Nat)]) := by rw [upd_same, hw0, hw1]
    generalize upd H4 lw (.lst [.int (1 + d0), .int (1 + d1)]) = H5 at P5 elw ⊢
    clear C3 C4 hlw H4 H3 P2 hw0 hw1 d00 d01 d10 d11 d0 d1
    refine ⟨_, rfl, pl, 61, rfl, P5, by decide, by decide, fun e0 H6 e00 e01 C6 => ⟨_, _, rfl, rfl, _, rfl, pl, 61, rfl, C6.1, by decide, by decide, fun e1 H7 e10 e11 C7 => ⟨_, _, rfl, rfl, by show 2 ≤ sizeLine; decide, fun lm hlm => ?_⟩⟩⟩
    obtain ⟨M0, hM0⟩ : ∃ M0, M0 = 60 + e0 := ⟨_, rfl⟩
    obtain ⟨M1, hM1⟩ : ∃ M1, M1 = 60 + e1 := ⟨_, rfl⟩
    have m0 : 60 ≤ M0 ∧ M0 ≤ 120 := by omega
    have m1 : 60 ≤ M1 ∧ M1 ≤ 120 := by omega
    have nlm : lm ≠ pl := pool_ne' C7.1 hlm
    have sm := same_upd (o := .lst [.int (60 + e0), .int (60 + e1)]) hlm
    have P8 := C7.1.same sm
    have elm : upd H7 lm (.lst [.int (60 + e0), .int (60 + e1)]) lm = some (.lst [.int M0, .int M1]) := by rw [upd_same, hM0, hM1]
    have elw := sm _ _ (C7.at nlw (C6.at nlw elw))
    generalize upd H7 lm (.lst [.int (60 + e0), .int (60 + e1)]) = H8 at P8 elw elm ⊢
    clear C6 C7 hlm sm H7 H6 P5 hM0 hM1 e00 e01 e10 e11 e0 e1
    refine ⟨_, rfl, pl, 13, rfl, P8, by decide, by decide, fun dl H9 dl0 dl1 C9 => ⟨_, _, rfl, rfl, _, rfl, lm, _, _, _, rfl, rfl, .of (C9.at nlm elm), atI_nat (j := 0) rfl, _, _, rfl, rfl, _, rfl, lm, _, _, _, rfl, rfl, .of (C9.at nlm elm), atI_nat (j := 1) rfl, _, _, rfl, rfl, ?_⟩⟩
    refine ⟨_, rfl, _, rfl, _, _, rfl, rfl, pl, _, rfl, C9.1, by omega, Nat.lt_of_le_of_lt (by omega : _ ≤ 1000) (by decide), fun more H10 mo0 mo1 C10 => ?_⟩
    have elw := C10.at nlw (C9.at nlw elw)
    have elm := C10.at nlm (C9.at nlm elm)
    have P10 := C10.1
    clear C9 C10 H9 P8
    intro kd hkd
    have nkd : kd ≠ pl := pool_ne' P10 hkd
    have sk := same_upd (o := .dK []) hkd
    have elw := sk _ _ elw
    have elm := sk _ _ elm
    have P11 := P10.same sk
    have ekd : upd H10 kd (.dK []) kd = some (.dK (keyK [])) := upd_same
    generalize upd H10 kd (.dK []) = H11 at elw elm P11 ekd ⊢
    clear sk hkd P10
    refine ⟨fun σ H' => ∃ ks : List KeyE, σ = [some (.ref p0), some (.ref pl), some (.bl cl), some (.ref lw), some (.ref lm), some (.int (394 + dl - M0 - M1)), some (.int more), some (.ref kd), none, none, none, none, none, none, none, none, none, none, none, none] ∧ PoolAt H' pl ∧ H' lw = some (.lst [.int (w0 : Nat), .int (w1 : Nat)]) ∧ H' lm = some (.lst [.int M0, .int M1]) ∧ H' kd = some (.dK (keyK ks)) ∧ Keys H' (ts36 (w0 : Nat) (w1 : Nat)) ks ∧ Ks36 w1 ks, ?_, ?_⟩
    · refine ⟨_, rfl, lw, _, _, _, rfl, rfl, .of elw, atI_nat (j := 1) rfl, _, _, rfl, rfl, _, rfl, ite_d (fun h => ?_) (fun h => ?_)⟩
      · refine ⟨_, rfl, _, rfl, lw, _, _, _, rfl, rfl, .of elw, atI_nat (j := 1) rfl, pl, _, rfl, P11, by omega, Nat.lt_of_le_of_lt (by omega : _ ≤ 1000) (by decide), fun c H12 c0 c1 C12 => ⟨by show 1 ≤ sizeLine; decide, fun ca hca => ?_⟩⟩
        have sc := same_upd (o := .tup [.int c]) hca
        have ekd2 := sc _ _ (C12.at nkd ekd)
        have eca : upd H12 ca (.tup [.int c]) ca = some (.tup ([c].map V.int)) := upd_same
        refine ⟨_, rfl, kd, _, rfl, DPut.k (k := Sum.inr "b") ekd2 (by decide), [("b", ca, [c])], rfl, (DctAt.of ekd2).pool (C12.1.same sc) _, ?_, ?_, upd_same, ⟨List.nodup_cons.mpr ⟨by simp, List.nodup_nil⟩, by show 1 ≤ 2; decide, fun b hb => ?_, fun b hb => ?_⟩, .inr ⟨ca, c, rfl, c0, c1, by omega⟩⟩
        · rw [upd_ne (ne_of (sc _ _ (C12.at nlw elw)) ekd2 (by intro z; cases z))]
          exact sc _ _ (C12.at nlw elw)
        · rw [upd_ne (ne_of (sc _ _ (C12.at nlm elm)) ekd2 (by intro z; cases z))]
          exact sc _ _ (C12.at nlm elm)
        · rw [List.mem_singleton.mp hb]
          exact upd_tup ekd2 (by intro _ z; cases z) _ _ eca
        · rw [List.mem_singleton.mp hb]
          refine ⟨(w1 : Nat), by simp [ts36], ⟨List.pairwise_singleton _ _, fun x hx => ?_⟩, by show 1 ≤ 1; decide, by show (1 : Int) < (w1 : Nat); omega⟩
          rw [List.mem_singleton.mp hx]
          exact ⟨c0, c1⟩
      · exact ⟨[], rfl, P11, elw, elm, ekd, ⟨by decide +kernel, Nat.zero_le _, (fun b hb => by cases hb), fun b hb => by cases hb⟩, .inl rfl⟩
    clear elw elm P11 ekd H11 nkd
    rintro σ H12 ⟨ks, rfl, P12, elw, elm, ekd, hK, hks⟩
    obtain ⟨left, hleft⟩ : ∃ left, left = 394 + dl - M0 - M1 := ⟨_, rfl⟩
    rw [← hleft]
    have lf : 394 ≤ left + M0 + M1 ∧ left + M0 + M1 ≤ 406 := by omega
    have mo : 0 ≤ more ∧ more ≤ left := by omega
    clear hleft dl0 dl1 mo0 mo1 dl
    -- the first store's rows
    intro od hod
    have so := same_upd (o := .dK []) hod
    have elw1 := so _ _ elw
    have elm1 := so _ _ elm
    have P13 := P12.same so
    refine ⟨_, rfl, lw, _, _, _, rfl, rfl, .of elw1, atI_nat (j := 0) rfl, _, rfl, lm, _, _, _, rfl, rfl, .of elm1, atI_nat (j := 0) rfl, w0, 0, M0, rfl, by omega, by omega, by omega, by omega, fun qa LA H14 qa0 s14 eqa rLA hLA => ?_⟩
    refine ⟨_, rfl, lw, _, _, _, rfl, rfl, .of (s14 _ _ elw1), atI_nat (j := 1) rfl, _, rfl, lm, _, _, _, rfl, rfl, .of (s14 _ _ elm1), atI_nat (j := 1) rfl, w1, 0, M1, rfl, by omega, by omega, by omega, by omega, fun qb LB H15 qb0 s15 eqb rLB hLB => ⟨s15 _ _ (s14 _ _ upd_same), [(Sum.inr "a", .ref qa), (Sum.inr "b", .ref qb)], rfl, by simp, ?_⟩⟩
    rw [merge2]
    have s1315 := s14.trans s15
    have eod0 := s1315 _ _ (upd_same (H := H12) (a := od) (o := .dK []))
    have keep : ∀ {b : Addr} {u : HO}, b ≠ od → H15 b = some u → upd H15 od (.dK (kvP qa qb)) b = some u := fun {b u} n e => by rw [upd_ne n]; exact e
    have ndk : ∀ {b : Addr} {u : HO}, H15 b = some u → (∀ k, u ≠ .dK k) → b ≠ od := fun {b u} e g z => by rw [z, eod0] at e; exact g _ (Option.some.inj e).symm
    have kdod : kd ≠ od := ne_of_none ekd hod
    have eod : upd H15 od (.dK (kvP qa qb)) od = some (.dK (kvP qa qb)) := upd_same
    have elw := keep (ndk (s1315 _ _ elw1) (by intro _ z; cases z)) (s1315 _ _ elw1)
    have elm := keep (ndk (s1315 _ _ elm1) (by intro _ z; cases z)) (s1315 _ _ elm1)
    have ekd := keep kdod (s1315 _ _ (so _ _ ekd))
    have P16 := (DctAt.of eod0).pool (P13.same s1315) (.dK (kvP qa qb))
    have tp := upd_tup (o := HO.dK (kvP qa qb)) eod0 (by intro _ z; cases z)
    have hK := ((hK.mono fun _ _ e => so _ _ e).mono fun _ _ e => s1315 _ _ e).mono tp
    have eqa := keep (ndk (s15 _ _ eqa) (by intro _ z; cases z)) (s15 _ _ eqa)
    have eqb := keep (ndk eqb (by intro _ z; cases z)) eqb
    have rLA : RowsAt (upd H15 od (.dK (kvP qa qb))) LA := fun b hb => tp _ _ (s15 _ _ (rLA b hb))
    have rLB : RowsAt (upd H15 od (.dK (kvP qa qb))) LB := fun b hb => tp _ _ (rLB b hb)
    have nqa : qa ≠ pl := fun e => by
      have := so.free qa0
      rw [e] at this
      obtain ⟨a0, a1, a2, a3, r, z, _⟩ := P12
      rw [z] at this
      cases this
    have nqb : qb ≠ pl := fun e => by
      have := so.free (s14.free qb0)
      rw [e] at this
      obtain ⟨a0, a1, a2, a3, r, z, _⟩ := P12
      rw [z] at this
      cases this
    show gName _ _ _ (upd H15 od (.dK (kvP qa qb))) _
    generalize upd H15 od (.dK (kvP qa qb)) = H16 at elw elm ekd P16 hK eqa eqb rLA rLB eod ⊢
    clear so elw1 elm1 P13 s14 s15 s1315 keep ndk eod0 tp hod
    -- the second store's rows
    refine ⟨_, rfl, lm, _, _, _, rfl, rfl, .of elm, atI_nat (j := 0) rfl, _, rfl, pl, 50, rfl, P16, by decide, by decide, fun f0 H17 f00 f01 C17 => ⟨_, _, rfl, rfl, ?_⟩⟩
    have elm17 := C17.at nlm elm
    refine ⟨_, rfl, lm, _, _, _, rfl, rfl, .of elm17, atI_nat (j := 1) rfl, _, rfl, pl, 50, rfl, C17.1, by decide, by decide, fun f1 H18 f10 f11 C18 => ⟨_, _, rfl, rfl, ?_⟩⟩
    have C := C17.trans C18
    have nt : ∀ {b : Addr} {u : HO}, H16 b = some u → (∀ xs, u ≠ .lst xs) → b ≠ pl := fun {b u} e h => pool_ne P16 e h
    have elw := C.at nlw elw
    have elm := C.at nlm elm
    have ekd := C.at (nt ekd (by intro _ z; cases z)) ekd
    have eod := C.at (nt eod (by intro _ z; cases z)) eod
    have hK := hK.mono (chg_tup P16 C)
    have eqa := C.at nqa eqa
    have eqb := C.at nqb eqb
    have rLA : RowsAt H18 LA := fun b hb => chg_tup P16 C _ _ (rLA b hb)
    have rLB : RowsAt H18 LB := fun b hb => chg_tup P16 C _ _ (rLB b hb)
    have P18 := C.1
    clear C C17 C18 elm17 nt
    intro ot hot
    have st := same_upd (o := .dK []) hot
    refine ⟨_, rfl, lw, _, _, _, rfl, rfl, .of (st _ _ elw), atI_nat (j := 0) rfl, _, rfl, _, rfl, lm, _, _, _, rfl, rfl, .of (st _ _ elm), atI_nat (j := 0) rfl, _, rfl, _, _, rfl, rfl, w0, M0 - f0, M0 + more, rfl, by omega, by omega, by omega, by omega, fun pa RA H20 pa0 s20 epa rRA hRA => ⟨s20 _ _ upd_same, [(Sum.inr "a", .ref pa)], rfl, by simp, ?_⟩⟩
    have eot0 : H20 ot = some (.dK []) := s20 _ _ upd_same
    have npa : pa ≠ pl := fun e => by
      have := st.free pa0
      rw [e] at this
      obtain ⟨a0, a1, a2, a3, r, z, _⟩ := P18
      rw [z] at this
      cases this
    have s1820 := st.trans s20
    have nno : ∀ {b : Addr} {u : HO}, H18 b = some u → b ≠ ot := fun {b u} e => ne_of_none e hot
    have tp := upd_tup (o := HO.dK [((Sum.inr "a" : Key), V.ref pa)]) eot0 (by intro _ z; cases z)
    have kk : ∀ {b : Addr} {u : HO}, H18 b = some u → upd H20 ot (.dK [((Sum.inr "a" : Key), V.ref pa)]) b = some u := fun {b u} e => by
      rw [upd_ne (nno e)]
      exact s1820 _ _ e
    have npo : pa ≠ ot := ne_of epa eot0 (by intro z; cases z)
    have epa : upd H20 ot (.dK [((Sum.inr "a" : Key), V.ref pa)]) pa = some (.lst (RA.map fun b => V.ref b.1)) := by rw [upd_ne npo]; exact epa
    have rRA : RowsAt (upd H20 ot (.dK [((Sum.inr "a" : Key), V.ref pa)])) RA := fun b hb => tp _ _ (rRA b hb)
    have P21 := (DctAt.of eot0).pool (P18.same s1820) (.dK [((Sum.inr "a" : Key), V.ref pa)])
    have eot : upd H20 ot (.dK [((Sum.inr "a" : Key), V.ref pa)]) ot = some (.dK [((Sum.inr "a" : Key), V.ref pa)]) := upd_same
    have elw := kk elw
    have elm := kk elm
    have ekd := kk ekd
    have eod := kk eod
    have hK := (hK.mono fun _ _ e => s1820 _ _ e).mono tp
    have eqa := kk eqa
    have eqb := kk eqb
    have rLA : RowsAt (upd H20 ot (.dK [((Sum.inr "a" : Key), V.ref pa)])) LA := fun b hb => kk (rLA b hb)
    have rLB : RowsAt (upd H20 ot (.dK [((Sum.inr "a" : Key), V.ref pa)])) LB := fun b hb => kk (rLB b hb)
    show gName _ _ _ (upd H20 ot (.dK [((Sum.inr "a" : Key), V.ref pa)])) _
    generalize upd H20 ot (.dK [((Sum.inr "a" : Key), V.ref pa)]) = H21 at elw elm ekd eod hK eqa eqb rLA rLB eot P21 epa rRA ⊢
    clear kk tp nno s1820 s20 st eot0 npo hot pa0 P18 P16
    refine ⟨_, rfl, lw, _, _, _, rfl, rfl, .of elw, atI_nat (j := 1) rfl, _, rfl, _, rfl, lm, _, _, _, rfl, rfl, .of elm, atI_nat (j := 1) rfl, _, rfl, _, _, rfl, rfl, _, rfl, _, _, rfl, rfl, w1, M1 - f1, M1 + left - more, rfl, by omega, by omega, by omega, by omega, fun pb RB H22 pb0 s22 epb rRB hRB => ?_⟩
    have eot2 := s22 _ _ eot
    have pbn : pb ≠ lw ∧ pb ≠ lm ∧ pb ≠ qa ∧ pb ≠ qb ∧ pb ≠ pa := ⟨(ne_of_none elw pb0).symm, (ne_of_none elm pb0).symm, (ne_of_none eqa pb0).symm, (ne_of_none eqb pb0).symm, (ne_of_none epa pb0).symm⟩
    have npb : pb ≠ pl := fun e => by
      rw [e] at pb0
      obtain ⟨a0, a1, a2, a3, r, z, _⟩ := P21
      rw [z] at pb0
      cases pb0
    have nno : ∀ {b : Addr} {u : HO}, H21 b = some u → u ≠ .dK [((Sum.inr "a" : Key), V.ref pa)] → b ≠ ot := fun {b u} e g z => by rw [z, eot] at e; exact g (Option.some.inj e).symm
    have tp := upd_tup (o := HO.dK (kvP pa pb)) eot2 (by intro _ z; cases z)
    have kk : ∀ {b : Addr} {u : HO}, H21 b = some u → b ≠ ot → upd H22 ot (.dK (kvP pa pb)) b = some u := fun {b u} e g => by
      rw [upd_ne g]
      exact s22 _ _ e
    have kl : ∀ {b : Addr} {xs : List V}, H21 b = some (.lst xs) → upd H22 ot (.dK (kvP pa pb)) b = some (.lst xs) := fun {b xs} e => kk e (ne_of e eot (by intro z; cases z))
    have nod : od ≠ ot := fun z => by
      rw [z, eot] at eod
      have := HO.dK.inj (Option.some.inj eod)
      have := congrArg List.length this
      simp [kvP] at this
    have nkt : kd ≠ ot := fun z => by
      rw [z, eot] at ekd
      have h1 := HO.dK.inj (Option.some.inj ekd)
      rcases hks with rfl | ⟨_, _, rfl, _⟩
      · cases h1
      · have h2 := congrArg (fun l : List (Key × V) => l.map (·.1)) h1
        have h3 : [(Sum.inr ("a" : Str) : Key)] = [Sum.inr ("b" : Str)] := h2
        exact ab_ne (Sum.inr.inj (List.cons.inj h3).1)
    refine ⟨_, rfl, ot, _, rfl, DPut.k (k := Sum.inr "b") eot2 (by show 1 < sizeLine; decide), ?_⟩
    rw [put_b]
    have S22 : S36 pl lw lm kd od ot qa qb pa pb w0 w1 M0 M1 ks LA LB RA RB (upd H22 ot (.dK (kvP pa pb))) := ⟨(DctAt.of eot2).pool (P21.same s22) _, kl elw, kl elm, kk ekd nkt, (hK.mono fun _ _ e => s22 _ _ e).mono tp, kk eod nod, upd_same, kl eqa, kl eqb, kl epa, by rw [upd_ne (ne_of epb eot2 (by intro z; cases z))]; exact epb, fun b hb => tp _ _ (s22 _ _ (rLA b hb)), fun b hb => tp _ _ (s22 _ _ (rLB b hb)), fun b hb => tp _ _ (s22 _ _ (rRA b hb)), fun b hb => tp _ _ (rRB b hb)⟩
    show Evl.tCut _ _ _ _ (upd H22 ot (.dK (kvP pa pb)))
    generalize upd H22 ot (.dK (kvP pa pb)) = H23 at S22 ⊢
    clear tp kk kl eot2 nno s22 epb rRB eot eod ekd elw elm hK eqa eqb rLA rLB epa rRA pb0
    -- is there a clash
    refine ⟨fun σ H' => ∃ cl2 : Bool, σ = [some (.ref p0), some (.ref pl), some (.bl cl2), some (.ref lw), some (.ref lm), some (.int left), some (.int more), some (.ref kd), some (.ref od), some (.int (M0 - f0)), some (.int (M1 - f1)), some (.ref ot), none, none, none, none, none, none, none, none] ∧ S36 pl lw lm kd od ot qa qb pa pb w0 w1 M0 M1 ks LA LB RA RB H' ∧ (cl2 = true → ∃ (ca : Addr) (c : Int), ks = [(("b" : Str), ca, [c])] ∧ 0 ≤ c ∧ c < w1 ∧ 1 < w1), ?_, ?_⟩
    · refine ⟨_, rfl, _, rfl, ?_⟩
      cases cl with
      | false => exact ifF ⟨false, rfl, S22, fun z => by cases z⟩
      | true =>
        refine ifT ⟨_, rfl, kd, _, rfl, DGet.k (k := Sum.inr "b") S22.ekd, ?_⟩
        rcases hks with rfl | ⟨ca, c, rfl, h⟩
        · exact ⟨false, rfl, S22, fun z => by cases z⟩
        · refine ⟨true, ?_, S22, fun _ => ⟨ca, c, rfl, h⟩⟩
          have : (valV (keyK [(("b" : Str), ca, [c])]) (Sum.inr "b")).isSome = true := by
            simp [keyK, valV]
          rw [this]
          rfl
    clear S22
    rintro σ H24 ⟨cl2, rfl, S24, hcl⟩
    refine ⟨fun σ H' => ∃ (RB2 : List (Addr × RowK)) (y18 : Option V), σ = [some (.ref p0), some (.ref pl), some (.bl cl2), some (.ref lw), some (.ref lm), some (.int left), some (.int more), some (.ref kd), some (.ref od), some (.int (M0 - f0)), some (.int (M1 - f1)), some (.ref ot), none, none, none, none, none, none, y18, none] ∧ S36 pl lw lm kd od ot qa qb pa pb w0 w1 M0 M1 ks LA LB RA RB2 H' ∧ ((cl2 = false ∧ RB2.map (·.2) = linesR w1 (M1 - f1) (M1 + left - more - (M1 - f1)).toNat) ∨ (cl2 = true ∧ ∃ (ca : Addr) (c : Int) (tt : Addr), ks = [(("b" : Str), ca, [c])] ∧ 0 ≤ c ∧ c < w1 ∧ 1 < w1 ∧ RB2 = RB ++ [(tt, clashR w1 c)] ∧ RB.map (·.2) = linesR w1 (M1 - f1) (M1 + left - more - (M1 - f1)).toNat)), ?_, ?_⟩
    · refine ⟨_, rfl, _, rfl, ?_⟩
      cases cl2 with
      | false => exact ifF ⟨RB, none, rfl, S24, .inl ⟨rfl, hRB⟩⟩
      | true =>
        obtain ⟨ca, c, rfl, c0, c1, c2⟩ := hcl rfl
        have hgb := DGet.k (k := Sum.inr "b") S24.eot
        rw [show valV (kvP pa pb) (Sum.inr "b") = some (.ref pb) from by simp [kvP, valV, ab_ne]] at hgb
        refine ifT ⟨_, rfl, ot, _, rfl, hgb, .inl ⟨rfl, _, .of S24.rb⟩, ?_⟩
        refine ⟨_, rfl, lw, _, _, _, rfl, rfl, .of S24.elw, atI_nat (j := 1) rfl, _, rfl, by omega, by omega, fun D hD => ?_⟩
        have eca : H24 ca = some (.tup ([c].map V.int)) := S24.hK.at_ _ List.mem_cons_self
        refine lc_range (lo := 0) (n := ((w1 : Nat) : Int).toNat) (fun j H2 => H2 D = some (.lst (((List.range j).map (clashK c)).map kV)) ∧ Same H24 H2) ⟨upd_same, same_upd hD⟩ (fun j H2 hj hp => ?_) (fun H2 hp => ?_)
        · obtain ⟨g1, s⟩ := hp
          have hgk := DGet.k (k := Sum.inr "b") (s _ _ S24.ekd)
          rw [show valV (keyK [(("b" : Str), ca, [c])]) (Sum.inr "b") = some (.ref ca) from by simp [keyK, valV]] at hgk
          refine ⟨rfl, _, rfl, _, rfl, kd, _, rfl, hgk, ca, _, rfl, .inr (.of (s _ _ eca)), rfl, flat_ints _, _, rfl, ?_⟩
          show if inV (.int (0 + (j : Nat))) ([c].map V.int) = true then _ else _
          rw [inV_ints, Int.zero_add]
          have fin : ∀ (v : V) (k : Key), v = kV k → k = clashK c j → ∃ acc, H2 D = some (.lst acc) ∧ acc.length < sizeLine ∧ (upd H2 D (.lst (acc ++ [v]))) D = some (.lst (((List.range (j + 1)).map (clashK c)).map kV)) ∧ Same H24 (upd H2 D (.lst (acc ++ [v]))) := fun v k hv hk => by
            refine ⟨_, g1, ?_, ?_, fun b o e => ?_⟩
            · rw [List.length_map, List.length_map, List.length_range]
              exact small1000 (by omega)
            · rw [List.range_succ, List.map_append, List.map_append, hv, hk]
              exact upd_same
            · rw [upd_ne (ne_of_none e hD)]
              exact s _ _ e
          by_cases e : ((j : Nat) : Int) = c
          · rw [decide_eq_true (by rw [e]; exact List.mem_cons_self)]
            refine ifT ⟨_, rfl, ?_⟩
            exact fin _ (Sum.inl ((j : Nat) : Int)) rfl (by unfold clashK; rw [if_pos e])
          · rw [decide_eq_false (by intro z; exact e (List.mem_singleton.mp z))]
            exact ifF (fin _ (Sum.inr "other") rfl (by unfold clashK; rw [if_neg e]))
        · obtain ⟨g1, s⟩ := hp
          rw [Int.toNat_natCast] at g1
          refine ⟨D, _, rfl, .inl ⟨.of g1, fun tt htt => ?_⟩⟩
          have st := s.trans (same_upd (o := .tup (((List.range w1).map (clashK c)).map kV)) htt)
          have ett : upd H2 tt (.tup (((List.range w1).map (clashK c)).map kV)) tt = some (.tup ((clashR w1 c).map kV)) := upd_same
          have S25 := S24.same st
          have lRB : RB.length ≤ 500 := by
            have := congrArg List.length hRB
            rw [List.length_map, linesR_len] at this
            omega
          generalize upd H2 tt (.tup (((List.range w1).map (clashK c)).map kV)) = H25 at S25 ett ⊢
          refine ⟨pb, _, _, rfl, rfl, S25.rb, by rw [List.length_map]; exact small1000 (by omega), RB ++ [(tt, clashR w1 c)], none, rfl, ?_, .inr ⟨rfl, ca, c, tt, rfl, c0, c1, c2, rfl, hRB⟩⟩
          obtain ⟨b1, b2, b3, b4, b5⟩ := pbn
          have ko : ∀ {b : Addr} {u : HO}, H25 b = some u → b ≠ pb → upd H25 pb (.lst ((RB.map fun b => V.ref b.1) ++ [V.ref tt])) b = some u := fun {b u} e g => by
            rw [upd_ne g]
            exact e
          have nl : ∀ {b : Addr} {u : HO}, H25 b = some u → (∀ xs, u ≠ .lst xs) → b ≠ pb := fun {b u} e g z => by rw [z, S25.rb] at e; exact g _ (Option.some.inj e).symm
          have tp : ∀ b xs, H25 b = some (.tup xs) → upd H25 pb (.lst ((RB.map fun b => V.ref b.1) ++ [V.ref tt])) b = some (.tup xs) := fun b xs e => ko e (nl e (by intro _ z; cases z))
          obtain ⟨a0, a1, a2, a3, r, z, zz⟩ := S25.pool
          refine ⟨⟨a0, a1, a2, a3, r, ko z npb.symm, zz⟩, ko S25.elw b1.symm, ko S25.elm b2.symm, ko S25.ekd (nl S25.ekd (by intro _ z; cases z)), S25.hK.mono tp, ko S25.eod (nl S25.eod (by intro _ z; cases z)), ko S25.eot (nl S25.eot (by intro _ z; cases z)), ko S25.la b3.symm, ko S25.lb b4.symm, ko S25.ra b5.symm, by rw [upd_same, List.map_append]; rfl, fun b hb => tp _ _ (S25.rla b hb), fun b hb => tp _ _ (S25.rlb b hb), fun b hb => tp _ _ (S25.rra b hb), fun b hb => ?_⟩
          rcases List.mem_append.mp hb with hb | hb
          · exact tp _ _ (S25.rrb b hb)
          · rw [List.mem_singleton.mp hb]
            exact tp _ _ ett
    clear S24 pbn
    rintro σ H25 ⟨RB2, y18, rfl, S25, hRB2⟩
    -- the schema
    have hT := tabs36 w01 (by omega) w11 (by omega)
    have mkb : ∀ (ca : Addr) (c : Int), ks = [(("b" : Str), ca, [c])] → markOf ks "b" = some [c] := fun ca c e => by rw [e]; simp [markOf, keyAt]
    have wk : MkOk w1 (markOf ks "b") := by
      rcases hks with rfl | ⟨ca, c, e, c0, c1, _⟩
      · exact .inl (by simp [markOf, keyAt])
      · exact .inr ⟨c, c0, c1, mkb ca c e⟩
    have kv : ∀ {w : Nat} {f : Int} {m : Nat}, w ≤ 3 → 0 ≤ f → f + (m : Nat) ≤ 1000 → ∀ r ∈ linesR w f m, ∀ x ∈ r, KVal x := fun {w f m} hw h0 h1 r hr => by
      obtain ⟨k, k0, k1, rfl⟩ := linesR_mem hr
      exact line_ok (by omega) (by omega) (by omega)
    have okB : RowsOk (w1 : Nat) (markOf ks "b") (LB.map (·.2)) := by
      rw [hLB]
      exact rowsOk_lines w11 wk (linesR_nd w11 _ _) (linesR_all (by omega) _) (kv w13 (by omega) (by omega))
    have okRB : RowsOk (w1 : Nat) (markOf ks "b") (linesR w1 (M1 - f1) (M1 + left - more - (M1 - f1)).toNat) := rowsOk_lines w11 wk (linesR_nd w11 _ _) (linesR_all (by omega) _) (kv w13 (by omega) (by omega))
    have lnB : ∀ r ∈ linesR w1 (M1 - f1) (M1 + left - more - (M1 - f1)).toNat, ∃ k : Int, 0 < k ∧ r = lineR w1 k := fun r hr => by
      obtain ⟨k, k0, k1, rfl⟩ := linesR_mem hr
      exact ⟨k, by omega, rfl⟩
    have okR : RowsOk (w1 : Nat) (markOf ks "b") (RB2.map (·.2)) := by
      rcases hRB2 with ⟨_, h⟩ | ⟨_, ca, c, tt, ek, c0, c1, c2, e, h⟩
      · rw [h]
        exact okRB
      · rw [e, List.map_append, h]
        rw [mkb ca c ek] at okRB ⊢
        exact rowsOk_clash c2 c0 c1 (by omega) okRB lnB
    have mka : markOf ks "a" = none := by
      rcases hks with rfl | ⟨ca, c, rfl, _⟩
      · simp [markOf, keyAt]
      · simp [markOf, keyAt, Ne.symm ab_ne]
    have okA : RowsOk (w0 : Nat) (markOf ks "a") (LA.map (·.2)) := by
      rw [hLA, mka]
      exact rowsOk_lines w01 (.inl rfl) (linesR_nd w01 _ _) (linesR_all (by omega) _) (kv w03 (by omega) (by omega))
    have okRA : RowsOk (w0 : Nat) (markOf ks "a") (RA.map (·.2)) := by
      rw [hRA, mka]
      exact rowsOk_lines w01 (.inl rfl) (linesR_nd w01 _ _) (linesR_all (by omega) _) (kv w03 (by omega) (by omega))
    intro D1 hD1
    have sD1 := same_upd (o := .dK []) hD1
    refine ⟨_, rfl, lw, _, _, _, rfl, rfl, .of (sD1 _ _ S25.elw), atI_nat (j := 0) rfl, _, rfl, lw, _, _, _, rfl, rfl, .of (sD1 _ _ S25.elw), atI_nat (j := 1) rfl, upd_same, [(Sum.inr "a", .int (w0 : Nat)), (Sum.inr "b", .int (w1 : Nat))], rfl, by simp, ?_⟩
    rw [merge2]
    have S26 : S36 pl lw lm kd od ot qa qb pa pb w0 w1 M0 M1 ks LA LB RA RB2 (upd (upd H25 D1 (.dK [])) D1 (.dK (tabK (ts36 (w0 : Nat) (w1 : Nat))))) := by
      rw [upd_upd]
      exact S25.same (same_upd hD1)
    have eD1 : (upd (upd H25 D1 (.dK [])) D1 (.dK (tabK (ts36 (w0 : Nat) (w1 : Nat))))) D1 = some (.dK (tabK (ts36 (w0 : Nat) (w1 : Nat)))) := upd_same
    show tCons _ _ _ (upd (upd H25 D1 (.dK [])) D1 (.dK (tabK (ts36 (w0 : Nat) (w1 : Nat))))) _
    generalize (upd (upd H25 D1 (.dK [])) D1 (.dK (tabK (ts36 (w0 : Nat) (w1 : Nat))))) = H26 at S26 eD1 ⊢
    clear S25 sD1 hD1
    refine ⟨_, rfl, fun D2 hD2 => ⟨by show 0 ≤ sizeLine; decide, fun e he => ⟨by show 3 ≤ sizeLine; decide, fun vt hvt => ?_⟩⟩⟩
    have sD2 := same_upd (o := .dK []) hD2
    have se := same_upd (o := .tup []) he
    have sv := same_upd (o := .tup [.str "a", .ref e, .non]) hvt
    have eD2 : (upd (upd (upd H26 D2 (.dK [])) e (.tup [])) vt (.tup [.str "a", .ref e, .non])) D2 = some (.dK []) := sv _ _ (se _ _ upd_same)
    refine ⟨eD2, [(Sum.inr "z", .ref vt)], rfl, by simp, fun x dx fx fdx ndx => ?_⟩
    have s2 := (sD2.trans se).trans sv
    obtain ⟨ssz, hssz⟩ : ∃ ssz : List SvE, ssz = [⟨"z", vt, "a", e, [], none⟩] := ⟨_, rfl⟩
    have tpz := upd_tup (o := HO.dK (svK ssz)) eD2 (by intro _ z; cases z)
    have kz : ∀ {b : Addr} {u : HO}, H26 b = some u → (upd (upd (upd (upd H26 D2 (.dK [])) e (.tup [])) vt (.tup [.str "a", .ref e, .non])) D2 (.dK (svK ssz))) b = some u := fun {b u} h => by
      rw [upd_ne (ne_of_none h hD2)]
      exact s2 _ _ h
    have hSz : Svcs (upd (upd (upd (upd H26 D2 (.dK [])) e (.tup [])) vt (.tup [.str "a", .ref e, .non])) D2 (.dK (svK ssz))) (ts36 (w0 : Nat) (w1 : Nat)) ks ssz 1 := by
      rw [hssz] at tpz ⊢
      refine ⟨⟨rfl, List.nodup_cons.mpr ⟨by simp, List.nodup_nil⟩, fun s hs => ?_⟩, fun b hb => ?_, ?_⟩
      · rw [List.mem_singleton.mp hs]
        show Wd "z"
        exact ⟨by decide +kernel, by decide +kernel, by decide +kernel⟩
      · rw [List.mem_singleton.mp hb]
        exact ⟨⟨tpz _ _ upd_same, tpz _ _ (sv _ _ upd_same)⟩, ⟨(w0 : Nat), by simp [ts36], ⟨.nil, fun c hc => by cases hc⟩, by show 0 ≤ 4; decide⟩, fun c hc => by cases hc⟩
      · have : fillE (ts36 (w0 : Nat) (w1 : Nat)) ks [⟨"z", vt, "a", e, [], none⟩] = [] := by simp [fillE, whE, isWh]
        rw [this]
        exact List.nodup_nil
    have S27 : S36 pl lw lm kd od ot qa qb pa pb w0 w1 M0 M1 ks LA LB RA RB2 (upd (upd (upd (upd H26 D2 (.dK [])) e (.tup [])) vt (.tup [.str "a", .ref e, .non])) D2 (.dK (svK ssz))) := S26.same fun b u h => kz h
    have eD1 := kz eD1
    have eD2 : (upd (upd (upd (upd H26 D2 (.dK [])) e (.tup [])) vt (.tup [.str "a", .ref e, .non])) D2 (.dK (svK ssz))) D2 = some (.dK (svK ssz)) := upd_same
    have emz : mergeK [] [((Sum.inr "z" : Key), V.ref vt)] = svK ssz := by rw [hssz]; rfl
    rw [emz] at fx fdx ⊢
    generalize (upd (upd (upd (upd H26 D2 (.dK [])) e (.tup [])) vt (.tup [.str "a", .ref e, .non])) D2 (.dK (svK ssz))) = H27 at S27 eD1 eD2 hSz fx fdx ⊢
    clear S26 emz kz tpz s2 sv se sD2 hvt he hD2 hssz
    refine mk_schemaG (.of eD1) (.of S27.ekd) (.of eD2) hT S27.hK hSz (by decide) (by decide) (by decide) (by decide) fx fdx ndx fun Gs H28 hx sG s28 noG => ?_
    have S28 := S27.same s28
    have hx28 := hx.same sG
    clear S27 eD1 eD2 hSz fx fdx ndx s28 noG sG
    -- the first store
    have valA : ∀ {u v : Addr}, valV (kvP u v) (Sum.inr "a") = some (.ref u) := fun {u v} => by simp [kvP, valV]
    have valB : ∀ {u v : Addr}, valV (kvP u v) (Sum.inr "b") = some (.ref v) := fun {u v} => by simp [kvP, valV, ab_ne]
    have gA : ∀ {H' : Hp} {t u v : Addr}, H' t = some (.dK (kvP u v)) → DGet H' t (.str "a") (some (.ref u)) := fun {H' t u v} h => by
      have := DGet.k (k := Sum.inr "a") h
      rwa [valA] at this
    have gB : ∀ {H' : Hp} {t u v : Addr}, H' t = some (.dK (kvP u v)) → DGet H' t (.str "b") (some (.ref v)) := fun {H' t u v} h => by
      have := DGet.k (k := Sum.inr "b") h
      rwa [valB] at this
    have lLA : LA.length = M0.toNat := by
      have := congrArg List.length hLA
      rw [List.length_map, linesR_len] at this
      omega
    have lLB : LB.length = M1.toNat := by
      have := congrArg List.length hLB
      rw [List.length_map, linesR_len] at this
      omega
    have lRA : RA.length = (more + f0).toNat := by
      have := congrArg List.length hRA
      rw [List.length_map, linesR_len] at this
      omega
    have lRB : RB2.length ≤ (left - more + f1).toNat + 1 := by
      rcases hRB2 with ⟨_, h⟩ | ⟨_, ca, c, tt, _, _, _, _, e, h⟩
      · have := congrArg List.length h
        rw [List.length_map, linesR_len] at this
        omega
      · have := congrArg List.length h
        rw [List.length_map, linesR_len] at this
        rw [e, List.length_append]
        show RB.length + 1 ≤ _
        omega
    refine ⟨_, rfl, fun D3 hD3 => ?_⟩
    have sD3 := same_upd (o := .dK []) hD3
    refine ⟨_, rfl, od, _, rfl, gA (sD3 _ _ S28.eod), qa, _, rfl, .inl (.of (sD3 _ _ S28.la)), fun la hla => ?_⟩
    have sla := same_upd (o := .lst (LA.map fun b => V.ref b.1)) hla
    refine ⟨_, rfl, od, _, rfl, gB (sla _ _ (sD3 _ _ S28.eod)), qb, _, rfl, .inl (.of (sla _ _ (sD3 _ _ S28.lb))), fun lb hlb => ?_⟩
    have slb := same_upd (o := .lst (LB.map fun b => V.ref b.1)) hlb
    have eD3 := slb _ _ (sla _ _ (upd_same (H := H28) (a := D3) (o := .dK [])))
    refine ⟨eD3, [(Sum.inr "a", .ref la), (Sum.inr "b", .ref lb)], rfl, by simp, ?_⟩
    rw [merge2r]
    have ss := (sD3.trans sla).trans slb
    have ela := slb _ _ (upd_same (H := upd H28 D3 (.dK [])) (a := la) (o := .lst (LA.map fun b => V.ref b.1)))
    have elb := upd_same (H := upd (upd H28 D3 (.dK [])) la (.lst (LA.map fun b => V.ref b.1))) (a := lb) (o := .lst (LB.map fun b => V.ref b.1))
    generalize upd (upd (upd H28 D3 (.dK [])) la (.lst (LA.map fun b => V.ref b.1))) lb (.lst (LB.map fun b => V.ref b.1)) = Hx at eD3 ss ela elb ⊢
    have kx : ∀ {b : Addr} {u : HO}, H28 b = some u → upd Hx D3 (.dK (kvP la lb)) b = some u := fun {b u} h => by
      rw [upd_ne (ne_of_none h hD3)]
      exact ss _ _ h
    have S28' := S28.same fun b u h => kx h
    have rA : RwAt (upd Hx D3 (.dK (kvP la lb))) ⟨"a", la, LA⟩ := ⟨by rw [upd_ne (ne_of ela eD3 (by intro z; cases z))]; exact ela, S28'.rla⟩
    have rB : RwAt (upd Hx D3 (.dK (kvP la lb))) ⟨"b", lb, LB⟩ := ⟨by rw [upd_ne (ne_of elb eD3 (by intro z; cases z))]; exact elb, S28'.rlb⟩
    have ed : (upd Hx D3 (.dK (kvP la lb))) D3 = some (.dK (rwK [⟨"a", la, LA⟩, ⟨"b", lb, LB⟩])) := upd_same
    have hxy := hx28.same fun b u h => kx h
    generalize upd Hx D3 (.dK (kvP la lb)) = Hy at S28' rA rB ed hxy kx ⊢
    refine fun p pd fp fdp ndp => mk_storeE hxy (Same.refl _) (.of ed) (by show (["a", "b"] : List Str).Nodup; decide +kernel) (fun b hb => ?_) (by show LA.length + (LB.length + 0) ≤ 400; omega) (by show 2 ≤ 26; decide) fp fdp ndp fun G30 H30 R30 Fi30 us30 O30 hs30 sG30 s30 _ => ?_
    · simp only [List.mem_cons, List.not_mem_nil, or_false] at hb
      rcases hb with rfl | rfl
      · exact ⟨rA, (w0 : Nat), by simp [ts36], okA⟩
      · exact ⟨rB, (w1 : Nat), by simp [ts36], okB⟩
    have S28n := S28'.same s30
    have sT30 : Same H28 H30 := fun b u h => s30 _ _ (kx h)
    have hx30 := hxy.same s30
    have O30' := O30.same sG30
    have aS30 : Srt (tabR us30 "a") (LA.map (·.2)) := by
      obtain ⟨b, hb, e⟩ := List.mem_map.mp (O30.names.mem_iff.mpr (show ("a" : Str) ∈ (ts36 (w0 : Nat) (w1 : Nat)).map (·.1) by simp [ts36]))
      have := hs30 b hb
      rw [e, ← tabR_at O30.rows.nd hb, e] at this
      rw [show rowsOf [⟨"a", la, LA⟩, ⟨"b", lb, LB⟩] "a" = LA.map (·.2) from by simp [rowsOf]] at this
      exact this
    have bS30 : Srt (tabR us30 "b") (LB.map (·.2)) := by
      obtain ⟨b, hb, e⟩ := List.mem_map.mp (O30.names.mem_iff.mpr (show ("b" : Str) ∈ (ts36 (w0 : Nat) (w1 : Nat)).map (·.1) by simp [ts36]))
      have := hs30 b hb
      rw [e, ← tabR_at O30.rows.nd hb, e] at this
      rw [show rowsOf [⟨"a", la, LA⟩, ⟨"b", lb, LB⟩] "b" = LB.map (·.2) from by simp [rowsOf, ab_ne]] at this
      exact this
    clear S28' rA rB ed hxy kx ss ela elb eD3 sD3 hD3 sla slb hla hlb fp fdp ndp s30 hs30 sG30
    -- the second one
    refine ⟨_, rfl, fun D4 hD4 => ?_⟩
    have sD4 := same_upd (o := .dK []) hD4
    refine ⟨_, rfl, ot, _, rfl, gA (sD4 _ _ S28n.eot), pa, _, rfl, .inl (.of (sD4 _ _ S28n.ra)), fun la hla => ?_⟩
    have sla := same_upd (o := .lst (RA.map fun b => V.ref b.1)) hla
    refine ⟨_, rfl, ot, _, rfl, gB (sla _ _ (sD4 _ _ S28n.eot)), pb, _, rfl, .inl (.of (sla _ _ (sD4 _ _ S28n.rb))), fun lb hlb => ?_⟩
    have slb := same_upd (o := .lst (RB2.map fun b => V.ref b.1)) hlb
    have eD4 := slb _ _ (sla _ _ (upd_same (H := H30) (a := D4) (o := .dK [])))
    refine ⟨eD4, [(Sum.inr "a", .ref la), (Sum.inr "b", .ref lb)], rfl, by simp, ?_⟩
    rw [merge2r]
    have ss := (sD4.trans sla).trans slb
    have ela := slb _ _ (upd_same (H := upd H30 D4 (.dK [])) (a := la) (o := .lst (RA.map fun b => V.ref b.1)))
    have elb := upd_same (H := upd (upd H30 D4 (.dK [])) la (.lst (RA.map fun b => V.ref b.1))) (a := lb) (o := .lst (RB2.map fun b => V.ref b.1))
    generalize upd (upd (upd H30 D4 (.dK [])) la (.lst (RA.map fun b => V.ref b.1))) lb (.lst (RB2.map fun b => V.ref b.1)) = Hx at eD4 ss ela elb ⊢
    have kx : ∀ {b : Addr} {u : HO}, H30 b = some u → upd Hx D4 (.dK (kvP la lb)) b = some u := fun {b u} h => by
      rw [upd_ne (ne_of_none h hD4)]
      exact ss _ _ h
    have S28n' := S28n.same fun b u h => kx h
    have rA : RwAt (upd Hx D4 (.dK (kvP la lb))) ⟨"a", la, RA⟩ := ⟨by rw [upd_ne (ne_of ela eD4 (by intro z; cases z))]; exact ela, S28n'.rra⟩
    have rB : RwAt (upd Hx D4 (.dK (kvP la lb))) ⟨"b", lb, RB2⟩ := ⟨by rw [upd_ne (ne_of elb eD4 (by intro z; cases z))]; exact elb, S28n'.rrb⟩
    have ed : (upd Hx D4 (.dK (kvP la lb))) D4 = some (.dK (rwK [⟨"a", la, RA⟩, ⟨"b", lb, RB2⟩])) := upd_same
    have hxy := hx30.same fun b u h => kx h
    generalize upd Hx D4 (.dK (kvP la lb)) = Hy at S28n' rA rB ed hxy kx ⊢
    refine fun p2 p2d fp fdp ndp => mk_storeE hxy (Same.refl _) (.of ed) (by show (["a", "b"] : List Str).Nodup; decide +kernel) (fun b hb => ?_) (by show RA.length + (RB2.length + 0) ≤ 400; omega) (by show 2 ≤ 26; decide) fp fdp ndp fun G40 H40 R40 Fi40 us40 O40 hs40 sG40 s40 _ => ?_
    · simp only [List.mem_cons, List.not_mem_nil, or_false] at hb
      rcases hb with rfl | rfl
      · exact ⟨rA, (w0 : Nat), by simp [ts36], okRA⟩
      · exact ⟨rB, (w1 : Nat), by simp [ts36], okR⟩
    have S28nn := S28n'.same s40
    have sT40 : Same H30 H40 := fun b u h => s40 _ _ (kx h)
    have hx40 := hxy.same s40
    have O40' := O40.same sG40
    have aS40 : Srt (tabR us40 "a") (RA.map (·.2)) := by
      obtain ⟨b, hb, e⟩ := List.mem_map.mp (O40.names.mem_iff.mpr (show ("a" : Str) ∈ (ts36 (w0 : Nat) (w1 : Nat)).map (·.1) by simp [ts36]))
      have := hs40 b hb
      rw [e, ← tabR_at O40.rows.nd hb, e] at this
      rw [show rowsOf [⟨"a", la, RA⟩, ⟨"b", lb, RB2⟩] "a" = RA.map (·.2) from by simp [rowsOf]] at this
      exact this
    have bS40 : Srt (tabR us40 "b") (RB2.map (·.2)) := by
      obtain ⟨b, hb, e⟩ := List.mem_map.mp (O40.names.mem_iff.mpr (show ("b" : Str) ∈ (ts36 (w0 : Nat) (w1 : Nat)).map (·.1) by simp [ts36]))
      have := hs40 b hb
      rw [e, ← tabR_at O40.rows.nd hb, e] at this
      rw [show rowsOf [⟨"a", la, RA⟩, ⟨"b", lb, RB2⟩] "b" = RB2.map (·.2) from by simp [rowsOf, ab_ne]] at this
      exact this
    clear S28n' rA rB ed hxy kx ss ela elb eD4 sD4 hD4 sla slb hla hlb fp fdp ndp s40 hs40 sG40
    have O1 := O30'.same sT40
    have S40 := S28nn
    clear hx28 hx30 O30' S28 S28n S28nn sT30 sT40 hx40
    have KR : ∀ {w : Nat} {mk : Option (List Int)} {L : List (Addr × RowK)}, w ≤ 3 → RowsOk (w : Nat) mk (L.map (·.2)) → ∀ y ∈ L, (∀ k ∈ y.2, KOk k) ∧ y.2.length ≤ 100 := fun {w mk L} hw h y hy => by
      have := h.wid y.2 (List.mem_map.mpr ⟨y, hy, rfl⟩)
      exact ⟨fun k hk => (this.2 k hk).ok, by omega⟩
    -- the rows due
    refine ⟨_, rfl, od, _, rfl, gA S40.eod, _, rfl, ot, _, rfl, gA S40.eot, qa, pa, _, _, rfl, rfl, S40.la, S40.ra, by rw [List.length_map, List.length_map]; exact small1000' (by omega), fun u hu => ?_⟩
    have su := same_upd (o := .lst ((LA.map fun b => V.ref b.1) ++ (RA.map fun b => V.ref b.1))) hu
    refine ⟨u, LA ++ RA, rfl, by rw [upd_same, List.map_append], fun b hb => ?_, fun b hb => ?_, by rw [List.length_append]; omega, fun qA H41 XA qA0 s41 eqA rXA hXA => ?_⟩
    · rcases List.mem_append.mp hb with hb | hb
      · exact su _ _ (S40.rla b hb)
      · exact su _ _ (S40.rra b hb)
    · rcases List.mem_append.mp hb with hb | hb
      · exact KR w03 okA b hb
      · exact KR w03 okRA b hb
    have S41 := S40.same (su.trans s41)
    have s4041 := su.trans s41
    refine ⟨_, rfl, od, _, rfl, gB S41.eod, _, rfl, ot, _, rfl, gB S41.eot, qb, pb, _, _, rfl, rfl, S41.lb, S41.rb, by rw [List.length_map, List.length_map]; exact small1000' (by omega), fun u2 hu2 => ?_⟩
    have su2 := same_upd (o := .lst ((LB.map fun b => V.ref b.1) ++ (RB2.map fun b => V.ref b.1))) hu2
    refine ⟨u2, LB ++ RB2, rfl, by rw [upd_same, List.map_append], fun b hb => ?_, fun b hb => ?_, by rw [List.length_append]; omega, fun qB H42 XB qB0 s42 eqB rXB hXB => ⟨by show 2 ≤ sizeLine; decide, fun rl hrl => ?_⟩⟩
    · rcases List.mem_append.mp hb with hb | hb
      · exact su2 _ _ (S41.rlb b hb)
      · exact su2 _ _ (S41.rrb b hb)
    · rcases List.mem_append.mp hb with hb | hb
      · exact KR w13 okB b hb
      · exact KR w13 okR b hb
    have sr := same_upd (o := .lst [.ref qA, .ref qB]) hrl
    have s4143 := (su2.trans s42).trans sr
    have S43 := S41.same s4143
    have s4043 := s4041.trans s4143
    have eqA := s4143 _ _ eqA
    have eqB := sr _ _ eqB
    have rXA := rXA.same s4143
    have rXB := rXB.same sr
    have erl : upd H42 rl (.lst [.ref qA, .ref qB]) rl = some (.lst [.ref qA, .ref qB]) := upd_same
    have O1 := O1.same s4043
    have O2 := O40'.same s4043
    generalize upd H42 rl (.lst [.ref qA, .ref qB]) = H43 at S43 eqA eqB rXA rXB erl O1 O2 ⊢
    clear s4043 s4143 s4041 S41 S40 sr s42 s41 su su2 hu hu2 qA0 qB0 hrl O40'
    rw [List.map_append] at hXA hXB
    have XAs := hXA.srt
    have XBs := hXB.srt
    -- the new rows
    refine ⟨_, rfl, ot, _, rfl, gB S43.eot, pb, RB2, rfl, S43.rb, S43.rrb, KR w13 okR, by omega, fun qn H44 N hqn s44 eqn rN hN => ?_⟩
    have S44 := S43.same s44
    refine ⟨qn, rfl, ⟨_, .of eqn⟩, fun D5 hD5 => ?_⟩
    refine lc_list (K := K) (a := qn) (xs := N.map fun z => V.ref z.1) (fun j H7 => H7 D5 = some (.lst (((N.take j).filter fun z => !memR (LB.map (·.2)) z.2).map fun z => V.ref z.1)) ∧ Same H44 H7) ⟨upd_same, same_upd hD5⟩ (fun j H7 _ hp => .of (hp.2 _ _ eqn)) (fun j v H7 hv hp => ?_) (fun H45 hp => ?_)
    · obtain ⟨g7, s7⟩ := hp
      obtain ⟨z, hz, rfl⟩ := map_at hv
      have hzm := List.mem_of_getElem? hz
      have S7 := S44.same s7
      have ef : ((N.take (j + 1)).filter fun z => !memR (LB.map (·.2)) z.2) = ((N.take j).filter fun z => !memR (LB.map (·.2)) z.2) ++ [z].filter fun z => !memR (LB.map (·.2)) z.2 := by
        rw [List.take_add_one, hz, List.filter_append]
        rfl
      have kz : ∀ k ∈ z.2, KOk k := fun k hk => by
        have h1 := (hN.all z.2).mp (List.mem_map.mpr ⟨z, hzm, rfl⟩)
        exact ((okR.wid z.2 h1).2 k hk).ok
      have lN := hN.len
      rw [List.length_map] at lN
      refine ⟨rfl, _, rfl, _, rfl, od, _, rfl, gB S7.eod, tupD z.2, (LB.map (·.2)).map tupD, dp_tup (s7 _ _ (rN z hzm)), .lst (.of S7.lb) (dp_rows S7.rlb), tup_shaped kz, tups_shaped (fun x hx k hk => ((okB.wid x hx).2 k hk).ok), _, rfl, ?_⟩
      rw [any_tup]
      show if (!memR (LB.map (·.2)) z.2) = true then _ else _
      cases hmm : memR (LB.map (·.2)) z.2 with
      | true =>
        refine ifF ⟨?_, s7⟩
        rw [ef, filt0 (p := fun z : Addr × RowK => !memR (LB.map (·.2)) z.2) (by rw [hmm]; rfl), List.append_nil]
        exact g7
      | false =>
        refine ifT ⟨_, rfl, _, g7, ?_, ?_, fun c o1 e2 => ?_⟩
        · rw [List.length_map]
          have h1 := List.length_filter_le (fun z : Addr × RowK => !memR (LB.map (·.2)) z.2) (N.take j)
          rw [List.length_take] at h1
          exact small1000 (by omega)
        · rw [ef, filt1 (p := fun z : Addr × RowK => !memR (LB.map (·.2)) z.2) (by rw [hmm]; rfl), List.map_append]
          exact upd_same
        · rw [upd_ne (ne_of_none e2 hD5)]
          exact s7 _ _ e2
    obtain ⟨g45, s45⟩ := hp
    rw [List.length_map, List.take_length] at g45
    have s4345 := s44.trans s45
    have S45 := S43.same s4345
    have O1 := O1.same s4345
    have O2 := O2.same s4345
    have eqA := s4345 _ _ eqA
    have eqB := s4345 _ _ eqB
    have rXA := rXA.same s4345
    have rXB := rXB.same s4345
    have erl := s4345 _ _ erl
    have rN := rN.same s45
    obtain ⟨F, hF⟩ : ∃ F, F = N.filter fun z => !memR (LB.map (·.2)) z.2 := ⟨_, rfl⟩
    rw [← hF] at g45
    have rF : RowsAt H45 F := fun z hz => rN z (by rw [hF] at hz; exact (List.mem_filter.mp hz).1)
    clear S43 S44 s44 s45 s4345 hqn hD5 eqn
    have lXA : XA.length ≤ 500 := by
      have := hXA.len
      rw [List.length_append, List.length_map, List.length_map] at this
      omega
    have lXB : XB.length ≤ 500 := by
      have := hXB.len
      rw [List.length_append, List.length_map, List.length_map] at this
      omega
    -- the union, in figures
    have hts : ∀ n : Str, n ∈ (ts36 (w0 : Nat) (w1 : Nat)).map (·.1) ↔ n = ("a" : Str) ∨ n = ("b" : Str) := fun n => by simp [ts36]
    have sUA := srt_uni aS30 aS40 XAs
    have sUB := srt_uni bS30 bS40 XBs
    have ndA := uniL_nd aS30 aS40
    have ndB := uniL_nd bS30 bS40
    have lUA : (uniR us30 us40 "a").length = XA.length := by
      have := srt_same_len sUA ndA
      rw [List.length_map] at this
      exact this.symm
    have lUB : (uniR us30 us40 "b").length = XB.length := by
      have := srt_same_len sUB ndB
      rw [List.length_map] at this
      exact this.symm
    have utot' : utot (ts36 (w0 : Nat) (w1 : Nat)) (uniR us30 us40) = XA.length + XB.length := by
      show (uniR us30 us40 "a").length + ((uniR us30 us40 "b").length + 0) = _
      rw [lUA, lUB, Nat.add_zero]
    have u500 : ∀ n, (uniR us30 us40 n).length ≤ 500 := fun n => by
      by_cases ha : n = "a"
      · rw [ha, lUA]
        exact lXA
      · by_cases hb : n = "b"
        · rw [hb, lUB]
          exact lXB
        · have h1 : n ∉ us30.map (·.1) := fun h => ((hts n).mp (O1.names.mem_iff.mp h)).elim ha hb
          have h2 : n ∉ us40.map (·.1) := fun h => ((hts n).mp (O2.names.mem_iff.mp h)).elim ha hb
          unfold uniR
          rw [tabR_no h1, tabR_no h2]
          exact Nat.zero_le _
    have gA' : UGood (ts36 (w0 : Nat) (w1 : Nat)) ks (uniR us30 us40) "a" := good36 w01 (by rw [mka]; exact .inl rfl) (by simp [ts36]) ndA fun r hr => by
      have h1 := (uniL_mem aS30 aS40 r).mp hr
      rw [hLA, hRA] at h1
      rcases List.mem_append.mp h1 with h | h
      · exact linesR_all (by omega) _ r h
      · exact linesR_all (by omega) _ r h
    have gB' : cl2 = false → UGood (ts36 (w0 : Nat) (w1 : Nat)) ks (uniR us30 us40) "b" := fun ec => good36 w11 wk (by simp [ts36]) ndB fun r hr => by
      have h1 := (uniL_mem bS30 bS40 r).mp hr
      rcases hRB2 with ⟨_, h⟩ | ⟨e, _⟩
      · rw [hLB, h] at h1
        rcases List.mem_append.mp h1 with h | h
        · exact linesR_all (by omega) _ r h
        · exact linesR_all (by omega) _ r h
      · rw [ec] at e
        cases e
    have eN : N.map (·.2) = tabR us40 "b" := hN.srt.eq bS40
    have eF : F.map (·.2) = (tabR us40 "b").filter fun r => !memR (tabR us30 "b") r := by
      rw [hF, ← eN, List.filter_map]
      congr 1
      refine List.filter_congr fun z _ => ?_
      show (!memR (LB.map (·.2)) z.2) = !memR (tabR us30 "b") z.2
      congr 1
      rw [Bool.eq_iff_iff, memR_iff, memR_iff, bS30.all]
    have eUB : uniR us30 us40 "b" = tabR us30 "b" ++ F.map (·.2) := by rw [eF]; rfl
    have l30 : (tabR us30 "b").length = M1.toNat := by
      have nd : (LB.map (·.2)).Nodup := okB.apart.imp fun h => h.1
      have := srt_same_len bS30 nd
      rw [List.length_map] at this
      omega
    have kXA : ∀ r ∈ XA.map (·.2), ∀ k ∈ r, KOk k := fun r hr k hk => by
      rcases List.mem_append.mp ((XAs.all r).mp hr) with h | h
      · exact ((okA.wid r h).2 k hk).ok
      · exact ((okRA.wid r h).2 k hk).ok
    have kXB : ∀ r ∈ XB.map (·.2), ∀ k ∈ r, KOk k := fun r hr k hk => by
      rcases List.mem_append.mp ((XBs.all r).mp hr) with h | h
      · exact ((okB.wid r h).2 k hk).ok
      · exact ((okR.wid r h).2 k hk).ok
    have ln1 : ∀ {L : List (Addr × RowK)}, ((L.map fun b => V.ref b.1).length : Int) = (L.length : Nat) := fun {L} => by rw [List.length_map]
    -- what is due
    refine ⟨_, rfl, rl, _, _, _, rfl, rfl, .of erl, atI_nat (j := 0) rfl, _, _, rfl, .inl (.of eqA), _, rfl, rl, _, _, _, rfl, rfl, .of erl, atI_nat (j := 1) rfl, _, _, rfl, .inl (.of eqB), _, _, rfl, rfl, _, rfl, rl, _, _, _, rfl, rfl, .of erl, atI_nat (j := 0) rfl, _, rfl, rl, _, _, _, rfl, rfl, .of erl, atI_nat (j := 1) rfl, by show 4 ≤ sizeLine; decide, fun dv hdv => ?_⟩
    have sdv := same_upd (o := .tup [.str "told", .int (((XA.map fun b => V.ref b.1).length : Int) + ((XB.map fun b => V.ref b.1).length : Int)), .ref qA, .ref qB]) hdv
    have edv : upd H45 dv (.tup [.str "told", .int (((XA.map fun b => V.ref b.1).length : Int) + ((XB.map fun b => V.ref b.1).length : Int)), .ref qA, .ref qB]) dv = some (.tup [.str "told", .int ((XA.length + XB.length : Nat) : Int), .ref qA, .ref qB]) := by
      rw [upd_same, ln1, ln1]
      rfl
    generalize upd H45 dv (.tup [.str "told", .int (((XA.map fun b => V.ref b.1).length : Int) + ((XB.map fun b => V.ref b.1).length : Int)), .ref qA, .ref qB]) = H46 at sdv edv ⊢
    clear hdv
    refine ⟨fun σ H' => ∃ (dv : Addr) (y18 y19 : Option V), σ = [some (.ref p0), some (.ref pl), some (.bl cl2), some (.ref lw), some (.ref lm), some (.ref p), some (.int more), some (.ref kd), some (.ref od), some (.int (M0 - f0)), some (.int (M1 - f1)), some (.ref ot), some (.ref x), some (.ref p2), some (.ref rl), some (.ref D5), some (.ref dv), none, y18, y19] ∧ Same H45 H' ∧ ((400 < XA.length + XB.length ∧ H' dv = some (.tup [.str "limit", .int 400])) ∨ (XA.length + XB.length ≤ 400 ∧ H' dv = some (.tup [.str "told", .int ((XA.length + XB.length : Nat) : Int), .ref qA, .ref qB]))), ?_, ?_⟩
    · refine ⟨_, rfl, rl, _, _, _, rfl, rfl, .of (sdv _ _ erl), atI_nat (j := 0) rfl, _, _, rfl, .inl (.of (sdv _ _ eqA)), _, rfl, rl, _, _, _, rfl, rfl, .of (sdv _ _ erl), atI_nat (j := 1) rfl, _, _, rfl, .inl (.of (sdv _ _ eqB)), _, _, rfl, rfl, _, _, rfl, rfl, _, rfl, ite_d (fun h => ?_) (fun h => ?_)⟩
      · rw [ln1, ln1] at h
        refine ⟨by show 2 ≤ sizeLine; decide, fun d2 hd2 => ⟨d2, _, _, rfl, sdv.trans (same_upd hd2), .inl ⟨by omega, upd_same⟩⟩⟩
      · rw [ln1, ln1] at h
        exact ⟨dv, _, _, rfl, sdv, .inr ⟨by omega, edv⟩⟩
    clear edv sdv H46 dv y18
    rintro σ H46 ⟨dv, y18, y19, rfl, s46, hdue⟩
    refine ⟨fun σ H' => ∃ (dv : Addr), σ = [some (.ref p0), some (.ref pl), some (.bl cl2), some (.ref lw), some (.ref lm), some (.ref p), some (.int more), some (.ref kd), some (.ref od), some (.int (M0 - f0)), some (.int (M1 - f1)), some (.ref ot), some (.ref x), some (.ref p2), some (.ref rl), some (.ref D5), some (.ref dv), none, y18, y19] ∧ Same H45 H' ∧ ((cl2 = false ∧ ((400 < XA.length + XB.length ∧ H' dv = some (.tup [.str "limit", .int 400])) ∨ (XA.length + XB.length ≤ 400 ∧ H' dv = some (.tup [.str "told", .int ((XA.length + XB.length : Nat) : Int), .ref qA, .ref qB])))) ∨ (cl2 = true ∧ ∃ i : Nat, UFlt (ts36 (w0 : Nat) (w1 : Nat)) ks (uniR us30 us40) "b" i ∧ H' dv = some (.tup [.str "refused", .str "b", .int (i : Nat)]))), ?_, ?_⟩
    · refine ⟨_, rfl, _, rfl, ?_⟩
      cases cl2 with
      | false => exact ifF ⟨dv, rfl, s46, .inl ⟨rfl, hdue⟩⟩
      | true =>
        refine ifT ?_
        rcases hRB2 with ⟨e, _⟩ | ⟨_, ca, c, tt, ek, c0, c1, c2, eRB, hRBm⟩
        · cases e
        have S46 := S45.same s46
        have cl40 : clashR w1 c ∈ tabR us40 "b" := (bS40.all _).mpr (by rw [eRB, List.map_append]; exact List.mem_append.mpr (.inr (List.mem_singleton.mpr rfl)))
        have cl30 : clashR w1 c ∉ tabR us30 "b" := fun h => by
          have h1 := (bS30.all _).mp h
          rw [hLB] at h1
          obtain ⟨k, _, _, e⟩ := linesR_mem h1
          exact clash_no c2 c0 c1 e
        have clF : clashR w1 c ∈ F.map (·.2) := by
          rw [eF]
          refine List.mem_filter.mpr ⟨cl40, ?_⟩
          cases hm : memR (tabR us30 "b") (clashR w1 c) with
          | false => rfl
          | true => exact absurd (memR_iff.mp hm) cl30
        obtain ⟨j, hj⟩ := List.mem_iff_getElem?.mp clF
        have ndU : (tabR us30 "b" ++ F.map (·.2)).Nodup := by rw [← eUB]; exact ndB
        have ndF : (F.map (·.2)).Nodup := (List.nodup_append.mp ndU).2.1
        have jl : j < (F.map (·.2)).length := (List.getElem?_eq_some_iff.mp hj).1
        have bad : UBad (ts36 (w0 : Nat) (w1 : Nat)) ks (uniR us30 us40) "b" ((tabR us30 "b").length + j) := clash36 c2 c0 c1 (by simp [ts36]) (mkb ca c ek) eUB ndU (fun r hr => by
          have h1 := (bS30.all r).mp hr
          rw [hLB] at h1
          exact linesR_all (by omega) _ r h1) ((bS30.all _).mpr (by rw [hLB]; exact linesR_in (by omega) (by omega))) (fun r hr => by
          rw [eF] at hr
          have h1 := (bS40.all r).mp (List.mem_filter.mp hr).1
          rw [eRB, List.map_append, hRBm] at h1
          rcases List.mem_append.mp h1 with h1 | h1
          · obtain ⟨k, hk, e⟩ := lnB r h1
            exact .inr ⟨k, by omega, e⟩
          · exact .inl (List.mem_singleton.mp h1)) hj
        have flt : UFlt (ts36 (w0 : Nat) (w1 : Nat)) ks (uniR us30 us40) "b" ((tabR us30 "b").length + j) := ⟨1, by
          rw [show (ts36 (w0 : Nat) (w1 : Nat)).map (·.1) = ab36 from rfl, sort36]
          rfl, fun m hm => by
          rw [show (ts36 (w0 : Nat) (w1 : Nat)).map (·.1) = ab36 from rfl, sort36] at hm
          rw [List.mem_singleton.mp (show m ∈ ([("a" : Str)]) from hm)]
          exact gA', bad⟩
        have kF : ∀ r ∈ F.map (·.2), ∀ k ∈ r, KOk k := fun r hr k hk => by
          rw [eF] at hr
          exact ((okR.wid r ((bS40.all r).mp (List.mem_filter.mp hr).1)).2 k hk).ok
        have elast : atI (RB2.map fun b => V.ref b.1) (-1) = some (V.ref tt) := by
          rw [eRB, List.map_append]
          exact at_last
        have ett : RowAt H46 tt (clashR w1 c) := S46.rrb (tt, clashR w1 c) (by rw [eRB]; exact List.mem_append.mpr (.inr (List.mem_singleton.mpr rfl)))
        refine ⟨_, rfl, lm, _, _, _, rfl, rfl, .of S46.elm, atI_nat (j := 1) rfl, _, rfl, .inl ⟨rfl, _, .of (s46 _ _ g45)⟩, _, rfl, ot, _, rfl, gB S46.eot, _, rfl, pb, _, _, _, rfl, rfl, .of S46.rb, elast, ?_⟩
        refine ⟨D5, _, tupD (clashR w1 c), (F.map (·.2)).map tupD, j, tupD (clashR w1 c), rfl, rfl, .lst (.of (s46 _ _ g45)) (dp_rows fun z hz => s46 _ _ (rF z hz)), dp_tup ett, tups_shaped kF, tup_shaped (kF _ clF), by rw [List.getElem?_map, hj]; rfl, by rw [eqv_tup, decide_eq_true rfl], fun m z' hm hz' => ?_, ?_⟩
        · obtain ⟨r, hr, rfl⟩ := map_at hz'
          rw [eqv_tup]
          refine decide_eq_false fun e => ?_
          subst e
          have := (List.getElem?_inj jl ndF).mp (hj.trans hr.symm)
          omega
        · refine ⟨_, _, rfl, rfl, by show 3 ≤ sizeLine; decide, fun d2 hd2 => ⟨d2, rfl, s46.trans (same_upd hd2), .inr ⟨rfl, _, flt, ?_⟩⟩⟩
          rw [upd_same, l30]
          show some (HO.tup [V.str "refused", V.str "b", V.int (M1 + (j : Nat))]) = _
          rw [show (M1 + (j : Nat) : Int) = ((M1.toNat + j : Nat) : Int) from by omega]
    clear hdue s46 H46 dv
    rintro σ H46 ⟨dv, rfl, s46, hdue⟩
    have S46 := S45.same s46
    have O1 := O1.same s46
    have O2 := O2.same s46
    have eqA := s46 _ _ eqA
    have eqB := s46 _ _ eqB
    have rXA := rXA.same s46
    have rXB := rXB.same s46
    have selfB : schB (ts36 (w0 : Nat) (w1 : Nat)) ks ssz (ts36 (w0 : Nat) (w1 : Nat)) ks ssz = true := by
      obtain ⟨_, _, _, _, o⟩ := O1.sch
      exact schB_refl o.hT o.hK o.hS
    refine ⟨2, rfl, by decide, by decide, for_range (lo := 0) (n := 2) (fun i σ H' => ∃ y17 : Option V, σ = [some (.ref p0), some (.ref pl), some (.bl cl2), some (.ref lw), some (.ref lm), some (.ref p), some (.int more), some (.ref kd), some (.ref od), some (.int (M0 - f0)), some (.int (M1 - f1)), some (.ref ot), some (.ref x), some (.ref p2), some (.ref rl), some (.ref D5), some (.ref dv), y17, y18, y19] ∧ Same H46 H') ⟨none, rfl, Same.refl _⟩ (fun i σ H' hi hp => ?_) (fun σ H47 hp => ?_)⟩
    · obtain ⟨y17, rfl, s⟩ := hp
      have O1 := O1.same s
      have O2 := O2.same s
      have gall : cl2 = false → ∀ n ∈ (ts36 (w0 : Nat) (w1 : Nat)).map (·.1), UGood (ts36 (w0 : Nat) (w1 : Nat)) ks (uniR us30 us40) n := fun ec n hn => by
        rcases (hts n).mp hn with rfl | rfl
        · exact gA'
        · exact gB' ec
      refine ⟨_, rfl, _, rfl, p, pd, x, R30, Fi30, p2, p2d, x, R40, Fi40, (w0 : Nat), (w1 : Nat), ks, ssz, 2, 1, us30, ts36 (w0 : Nat) (w1 : Nat), ks, ssz, 2, 1, us40, rfl, O1, O2, u500, selfB, fun n i hf u H8 hu s8 eu => ?_, fun hg ht u H8 hu s8 eu => ?_, fun hg hle u qa' qb' LA' LB' H8 hu s8 eu ea ra' sa eb rb' sb => ?_⟩
      · rcases hdue with ⟨ec, _⟩ | ⟨_, i', hf', e⟩
        · exact (hf.notG hT.nm.nd (gall ec)).elim
        · obtain ⟨rfl, rfl⟩ := hf.uniq hT.nm.nd hf'
          have sh : SeqAt.shaped (.tuple [.str "refused", .str "b", .int (i : Nat)]) = true := ref_shaped (by decide +kernel)
          refine ⟨_, rfl, .tuple [.str "refused", .str "b", .int (i : Nat)], .tuple [.str "refused", .str "b", .int (i : Nat)], .tup (.of eu) (.cons (.str _) (.cons (.str _) (.cons (.int _) .nil))), .tup (.of (s8 _ _ (s _ _ e))) (.cons (.str _) (.cons (.str _) (.cons (.int _) .nil))), sh, sh, _, rfl, ?_⟩
          rw [PySem.SeqAt.eqv_refl _ (PySem.SeqAt.canLay_of_shaped sh)]
          exact ifF ⟨_, rfl, s.trans s8⟩
      · rcases hdue with ⟨ec, ⟨_, e⟩ | ⟨hle, _⟩⟩ | ⟨_, i', hf', e⟩
        · have sh : SeqAt.shaped (.tuple [.str "limit", .int 400]) = true := by decide +kernel
          refine ⟨_, rfl, .tuple [.str "limit", .int 400], .tuple [.str "limit", .int 400], .tup (.of eu) (.cons (.str _) (.cons (.int _) .nil)), .tup (.of (s8 _ _ (s _ _ e))) (.cons (.str _) (.cons (.int _) .nil)), sh, sh, _, rfl, ?_⟩
          rw [PySem.SeqAt.eqv_refl _ (PySem.SeqAt.canLay_of_shaped sh)]
          exact ifF ⟨_, rfl, s.trans s8⟩
        · rw [utot'] at ht
          omega
        · exact (hf'.notG hT.nm.nd hg).elim
      · rcases hdue with ⟨ec, ⟨hgt, _⟩ | ⟨_, e⟩⟩ | ⟨_, i', hf', e⟩
        · rw [utot'] at hle
          omega
        · have eA : LA'.map (·.2) = XA.map (·.2) := sa.eq sUA
          have eB : LB'.map (·.2) = XB.map (·.2) := sb.eq sUB
          have nA : LA'.length = XA.length := by have := congrArg List.length eA; rwa [List.length_map, List.length_map] at this
          have nB : LB'.length = XB.length := by have := congrArg List.length eB; rwa [List.length_map, List.length_map] at this
          rw [nA, nB] at eu
          have sh := told36_shaped (n := ((XA.length + XB.length : Nat) : Int)) kXA kXB
          have s48 := s.trans s8
          refine ⟨_, rfl, .tuple [.str "told", .int ((XA.length + XB.length : Nat) : Int), .list ((XA.map (·.2)).map tupD), .list ((XB.map (·.2)).map tupD)], .tuple [.str "told", .int ((XA.length + XB.length : Nat) : Int), .list ((XA.map (·.2)).map tupD), .list ((XB.map (·.2)).map tupD)], .tup (.of eu) (.cons (.str _) (.cons (.int _) (.cons (.lst (.of ea) (by rw [← eA]; exact dp_rows ra')) (.cons (.lst (.of eb) (by rw [← eB]; exact dp_rows rb')) .nil)))), .tup (.of (s8 _ _ (s _ _ e))) (.cons (.str _) (.cons (.int _) (.cons (.lst (.of (s48 _ _ eqA)) (dp_rows (rXA.same s48))) (.cons (.lst (.of (s48 _ _ eqB)) (dp_rows (rXB.same s48))) .nil)))), sh, sh, _, rfl, ?_⟩
          rw [PySem.SeqAt.eqv_refl _ (PySem.SeqAt.canLay_of_shaped sh)]
          exact ifF ⟨_, rfl, s.trans s8⟩
        · exact (hf'.notG hT.nm.nd hg).elim
    obtain ⟨y17, rfl, s47⟩ := hp
    have S47 := S46.same s47
    have O1 := O1.same s47
    have na : ("b" : Str) ∈ us30.map (·.1) := O1.names.mem_iff.mpr ((hts _).mpr (.inr rfl))
    have nb : ("a" : Str) ∈ us40.map (·.1) := O2.names.mem_iff.mpr ((hts _).mpr (.inl rfl))
    refine ⟨_, rfl, p, pd, _, rfl, O1.ob, p, pd, x, R30, Fi30, "b", ts36 (w0 : Nat) (w1 : Nat), ks, ssz, 2, 1, us30, rfl, O1, fun b' hb' eb' r L H8 hr' hL hR s8 hr8 => ?_, fun z => absurd na z⟩
    have S8 := S47.same s8
    refine ⟨_, rfl, od, _, rfl, gB S8.eod, qb, LB, rfl, S8.lb, S8.rlb, KR w13 okB, by omega, fun q9 H9 L9 hq9 s9 hl9 hL9 hS9 => ?_⟩
    have eL : L9.map (·.2) = L.map (·.2) := by
      rw [hL]
      have h1 := bS30
      rw [← eb', tabR_at O1.rows.nd hb'] at h1
      exact hS9.srt.eq h1
    have k9 : ∀ r ∈ L.map (·.2), ∀ k ∈ r, KOk k := fun r hr k hk => by
      rw [← eL] at hr
      exact ((okB.wid r ((hS9.all r).mp hr)).2 k hk).ok
    refine ⟨.list ((L.map (·.2)).map tupD), .list ((L9.map (·.2)).map tupD), .lst (.of (s9 _ _ hr8)) (dp_rows (hR.same s9)), .lst (.of hl9) (dp_rows hL9), tups_shaped k9, tups_shaped (by rw [eL]; exact k9), ?_⟩
    rw [eqv_tups, eL, decide_eq_true rfl]
    refine ⟨_, rfl, ifT ?_⟩
    have s79 := s8.trans s9
    have S9 := S47.same s79
    have O2 := O2.same (s47.trans s79)
    refine ⟨_, rfl, p2, p2d, _, rfl, O2.ob, p2, p2d, x, R40, Fi40, "a", ts36 (w0 : Nat) (w1 : Nat), ks, ssz, 2, 1, us40, rfl, O2, fun b2 hb2 eb2 r2 L2 H10 hr2 hL2 hR2 s10 hr10 => ?_, fun z => absurd nb z⟩
    have S10 := S9.same s10
    refine ⟨_, rfl, ot, _, rfl, gA S10.eot, pa, RA, rfl, S10.ra, S10.rra, KR w03 okRA, by omega, fun q11 H11 L11 hq11 s11 hl11 hL11 hS11 => ?_⟩
    have eL2 : L11.map (·.2) = L2.map (·.2) := by
      rw [hL2]
      have h1 := aS40
      rw [← eb2, tabR_at O2.rows.nd hb2] at h1
      exact hS11.srt.eq h1
    have k11 : ∀ r ∈ L2.map (·.2), ∀ k ∈ r, KOk k := fun r hr k hk => by
      rw [← eL2] at hr
      exact ((okRA.wid r ((hS11.all r).mp hr)).2 k hk).ok
    refine ⟨.list ((L2.map (·.2)).map tupD), .list ((L11.map (·.2)).map tupD), .lst (.of (s11 _ _ hr10)) (dp_rows (hR2.same s11)), .lst (.of hl11) (dp_rows hL11), tups_shaped k11, tups_shaped (by rw [eL2]; exact k11), ?_⟩
    rw [eqv_tups, eL2, decide_eq_true rfl]
    exact q _
end
theorem all_mk {P : Program} {w : World} {K : PySem.W.Frag} {h : Heap} {mg : Str → Option Value} {fa : Addr} (X : K.In h) (G : h.Ns mainGlobals mg) (hfa : mg "law" = some (.ref fa))
    {f1300 : Addr} {od1300 an1300 : Option Addr} {sl1300 : Array (Option Value)} {oc1300 kV1300 dc1300 pm1300 cd1300 ct1300 : Value}
    {f1700 : Addr} {od1700 an1700 : Option Addr} {sl1700 : Array (Option Value)} {oc1700 kV1700 dc1700 pm1700 cd1700 ct1700 : Value}
    {f1500 : Addr} {od1500 an1500 : Option Addr} {sl1500 : Array (Option Value)} {oc1500 kV1500 dc1500 pm1500 cd1500 ct1500 : Value}
    {f11 : Addr} {od11 an11 : Option Addr} {sl11 : Array (Option Value)} {oc11 kV11 dc11 pm11 cd11 ct11 : Value}
    {f12 : Addr} {od12 an12 : Option Addr} {sl12 : Array (Option Value)} {oc12 kV12 dc12 pm12 cd12 ct12 : Value}
    {f13 : Addr} {od13 an13 : Option Addr} {sl13 : Array (Option Value)} {oc13 kV13 dc13 pm13 cd13 ct13 : Value}
    {f14 : Addr} {od14 an14 : Option Addr} {sl14 : Array (Option Value)} {oc14 kV14 dc14 pm14 cd14 ct14 : Value}
    {f15 : Addr} {od15 an15 : Option Addr} {sl15 : Array (Option Value)} {oc15 kV15 dc15 pm15 cd15 ct15 : Value}
    {f16 : Addr} {od16 an16 : Option Addr} {sl16 : Array (Option Value)} {oc16 kV16 dc16 pm16 cd16 ct16 : Value}
    {f17 : Addr} {od17 an17 : Option Addr} {sl17 : Array (Option Value)} {oc17 kV17 dc17 pm17 cd17 ct17 : Value}
    {f23 : Addr} {od23 an23 : Option Addr} {sl23 : Array (Option Value)} {oc23 kV23 dc23 pm23 cd23 ct23 : Value}
    {f24 : Addr} {od24 an24 : Option Addr} {sl24 : Array (Option Value)} {oc24 kV24 dc24 pm24 cd24 ct24 : Value}
    {f25 : Addr} {od25 an25 : Option Addr} {sl25 : Array (Option Value)} {oc25 kV25 dc25 pm25 cd25 ct25 : Value}
    {f26 : Addr} {od26 an26 : Option Addr} {sl26 : Array (Option Value)} {oc26 kV26 dc26 pm26 cd26 ct26 : Value}
    {f27 : Addr} {od27 an27 : Option Addr} {sl27 : Array (Option Value)} {oc27 kV27 dc27 pm27 cd27 ct27 : Value}
    {f28 : Addr} {od28 an28 : Option Addr} {sl28 : Array (Option Value)} {oc28 kV28 dc28 pm28 cd28 ct28 : Value}
    {f29 : Addr} {od29 an29 : Option Addr} {sl29 : Array (Option Value)} {oc29 kV29 dc29 pm29 cd29 ct29 : Value}
    {f30 : Addr} {od30 an30 : Option Addr} {sl30 : Array (Option Value)} {oc30 kV30 dc30 pm30 cd30 ct30 : Value}
    {f31 : Addr} {od31 an31 : Option Addr} {sl31 : Array (Option Value)} {oc31 kV31 dc31 pm31 cd31 ct31 : Value}
    {f32 : Addr} {od32 an32 : Option Addr} {sl32 : Array (Option Value)} {oc32 kV32 dc32 pm32 cd32 ct32 : Value}
    {f33 : Addr} {od33 an33 : Option Addr} {sl33 : Array (Option Value)} {oc33 kV33 dc33 pm33 cd33 ct33 : Value}
    {f4400 : Addr} {od4400 an4400 : Option Addr} {sl4400 : Array (Option Value)} {oc4400 kV4400 dc4400 pm4400 cd4400 ct4400 : Value}
    {f4401 : Addr} {od4401 an4401 : Option Addr} {sl4401 : Array (Option Value)} {oc4401 kV4401 dc4401 pm4401 cd4401 ct4401 : Value}
    {f4403 : Addr} {od4403 an4403 : Option Addr} {sl4403 : Array (Option Value)} {oc4403 kV4403 dc4403 pm4403 cd4403 ct4403 : Value}
    {f4404 : Addr} {od4404 an4404 : Option Addr} {sl4404 : Array (Option Value)} {oc4404 kV4404 dc4404 pm4404 cd4404 ct4404 : Value}
    {f4405 : Addr} {od4405 an4405 : Option Addr} {sl4405 : Array (Option Value)} {oc4405 kV4405 dc4405 pm4405 cd4405 ct4405 : Value}
    {f4408 : Addr} {od4408 an4408 : Option Addr} {sl4408 : Array (Option Value)} {oc4408 kV4408 dc4408 pm4408 cd4408 ct4408 : Value}
    {f4409 : Addr} {od4409 an4409 : Option Addr} {sl4409 : Array (Option Value)} {oc4409 kV4409 dc4409 pm4409 cd4409 ct4409 : Value}
    {f35 : Addr} {od35 an35 : Option Addr} {sl35 : Array (Option Value)} {oc35 kV35 dc35 pm35 cd35 ct35 : Value}
    {f38 : Addr} {od38 an38 : Option Addr} {sl38 : Array (Option Value)} {oc38 kV38 dc38 pm38 cd38 ct38 : Value}
    {f39 : Addr} {od39 an39 : Option Addr} {sl39 : Array (Option Value)} {oc39 kV39 dc39 pm39 cd39 ct39 : Value}
    {f5000 : Addr} {od5000 an5000 : Option Addr} {sl5000 : Array (Option Value)} {oc5000 kV5000 dc5000 pm5000 cd5000 ct5000 : Value}
    {f5001 : Addr} {od5001 an5001 : Option Addr} {sl5001 : Array (Option Value)} {oc5001 kV5001 dc5001 pm5001 cd5001 ct5001 : Value}
    {f5003 : Addr} {od5003 an5003 : Option Addr} {sl5003 : Array (Option Value)} {oc5003 kV5003 dc5003 pm5003 cd5003 ct5003 : Value}
    {f5004 : Addr} {od5004 an5004 : Option Addr} {sl5004 : Array (Option Value)} {oc5004 kV5004 dc5004 pm5004 cd5004 ct5004 : Value}
    {f5006 : Addr} {od5006 an5006 : Option Addr} {sl5006 : Array (Option Value)} {oc5006 kV5006 dc5006 pm5006 cd5006 ct5006 : Value}
    {f42 : Addr} {od42 an42 : Option Addr} {sl42 : Array (Option Value)} {oc42 kV42 dc42 pm42 cd42 ct42 : Value}
    {f43 : Addr} {od43 an43 : Option Addr} {sl43 : Array (Option Value)} {oc43 kV43 dc43 pm43 cd43 ct43 : Value}
    {f44 : Addr} {od44 an44 : Option Addr} {sl44 : Array (Option Value)} {oc44 kV44 dc44 pm44 cd44 ct44 : Value}
    {f45 : Addr} {od45 an45 : Option Addr} {sl45 : Array (Option Value)} {oc45 kV45 dc45 pm45 cd45 ct45 : Value}
    {f46 : Addr} {od46 an46 : Option Addr} {sl46 : Array (Option Value)} {oc46 kV46 dc46 pm46 cd46 ct46 : Value}
    {f47 : Addr} {od47 an47 : Option Addr} {sl47 : Array (Option Value)} {oc47 kV47 dc47 pm47 cd47 ct47 : Value}
    {f48 : Addr} {od48 an48 : Option Addr} {sl48 : Array (Option Value)} {oc48 kV48 dc48 pm48 cd48 ct48 : Value}
    {f49 : Addr} {od49 an49 : Option Addr} {sl49 : Array (Option Value)} {oc49 kV49 dc49 pm49 cd49 ct49 : Value}
    {f2 : Addr}
    {nm_2 qn_2 : Str} {N_2 : Addr} {bs_2 : List Value} {sn_2 : List Str} {sub_2 : List Value} {ab_2 : Bool} {col_2 : Option Bool} {dd_2 : Option Addr} {m0_2 m1_2 m2_2 m3_2 m5_2 : Option Value}
    {f3 : Addr}
    {nm_3 qn_3 : Str} {N_3 : Addr} {bs_3 : List Value} {sn_3 : List Str} {sub_3 : List Value} {ab_3 : Bool} {col_3 : Option Bool} {dd_3 : Option Addr} {m0_3 m1_3 m2_3 m3_3 m5_3 : Option Value}
    {f4 : Addr}
    {nm_4 qn_4 : Str} {N_4 : Addr} {bs_4 : List Value} {sn_4 : List Str} {sub_4 : List Value} {ab_4 : Bool} {col_4 : Option Bool} {dd_4 : Option Addr} {m0_4 m1_4 m2_4 m3_4 m5_4 : Option Value}
    {f7 : Addr}
    {nm_7 qn_7 : Str} {N_7 : Addr} {bs_7 : List Value} {sn_7 : List Str} {sub_7 : List Value} {ab_7 : Bool} {col_7 : Option Bool} {dd_7 : Option Addr} {m0_7 m1_7 m2_7 m3_7 m5_7 : Option Value}
    {f5 : Addr}
    {nm_5 qn_5 : Str} {N_5 : Addr} {bs_5 : List Value} {sn_5 : List Str} {sub_5 : List Value} {ab_5 : Bool} {col_5 : Option Bool} {dd_5 : Option Addr} {m0_5 m1_5 m2_5 m3_5 m5_5 : Option Value}
    {f34 : Addr}
    {f40 : Addr}
    {f54401 : Addr} {rest4401 : List Value}
    {f54403 : Addr} {rest4403 : List Value}
    (ac_2 : PySem.W.nsIn K mainGlobals "CappedError" = some (some (.ref f2)))
    (ac_3 : PySem.W.nsIn K mainGlobals "UnknownName" = some (some (.ref f3)))
    (ac_4 : PySem.W.nsIn K mainGlobals "SchemaMismatch" = some (some (.ref f4)))
    (ac_7 : PySem.W.nsIn K mainGlobals "InvalidStore" = some (some (.ref f7)))
    (ac_5 : PySem.W.nsIn K mainGlobals "LimitExceeded" = some (some (.ref f5)))
    (ac_34 : PySem.W.nsIn K mainGlobals "Schema" = some (some (.ref f34)))
    (ac_40 : PySem.W.nsIn K mainGlobals "Store" = some (some (.ref f40)))
    (fi_3 : PySem.W.findIn K (.ref f3) "__init__" = some (some (.ref f1300)))
    (fi_7 : PySem.W.findIn K (.ref f7) "__init__" = some (some (.ref f1700)))
    (fi_5 : PySem.W.findIn K (.ref f5) "__init__" = some (some (.ref f1500)))
    (fi_34 : PySem.W.findIn K (.ref f34) "__init__" = some (some (.ref f4400)))
    (fi_40 : PySem.W.findIn K (.ref f40) "__init__" = some (some (.ref f5000)))
    (ma_4404 : PySem.W.findIn K (.ref f34) "__eq__" = some (some (.ref f4404)))
    (ma_4405 : PySem.W.findIn K (.ref f34) "table_names" = some (some (.ref f4405)))
    (ma_4408 : PySem.W.findIn K (.ref f34) "width_of" = some (some (.ref f4408)))
    (ma_4409 : PySem.W.findIn K (.ref f34) "key_of" = some (some (.ref f4409)))
    (ma_5001 : PySem.W.findIn K (.ref f40) "__getitem__" = some (some (.ref f5001)))
    (ma_5003 : PySem.W.findIn K (.ref f40) "__contains__" = some (some (.ref f5003)))
    (ma_5004 : PySem.W.findIn K (.ref f40) "__len__" = some (some (.ref f5004)))
    (ma_5006 : PySem.W.findIn K (.ref f40) "__or__" = some (some (.ref f5006)))
    (pa_4401 : PySem.W.findIn K (.ref f34) "tables" = some (some (.ref f54401)))
    (pa_4403 : PySem.W.findIn K (.ref f34) "services" = some (some (.ref f54403)))
    (pd_4401 : PySem.W.recIn K f54401 "property" = some (.ref f4401 :: rest4401))
    (pd_4403 : PySem.W.recIn K f54403 "property" = some (.ref f4403 :: rest4403))
    (l1300 : K.lookup f1300 = some ⟨oc1300, od1300, .func (PySem.W.fnOf "__init__" "UnknownName.__init__" (defArgs s_UnknownName___init__) (defBody s_UnknownName___init__) (defScope s_UnknownName___init__) .none kV1300 dc1300 pm1300 an1300 cd1300 ct1300), sl1300⟩) (c1300 : PySem.W.codeIn K cd1300 "UnknownName.__init__" = true) (k1300 : PySem.W.keepIn K (.ref f1300) = true)
    (l1700 : K.lookup f1700 = some ⟨oc1700, od1700, .func (PySem.W.fnOf "__init__" "InvalidStore.__init__" (defArgs s_InvalidStore___init__) (defBody s_InvalidStore___init__) (defScope s_InvalidStore___init__) .none kV1700 dc1700 pm1700 an1700 cd1700 ct1700), sl1700⟩) (c1700 : PySem.W.codeIn K cd1700 "InvalidStore.__init__" = true) (k1700 : PySem.W.keepIn K (.ref f1700) = true)
    (l1500 : K.lookup f1500 = some ⟨oc1500, od1500, .func (PySem.W.fnOf "__init__" "LimitExceeded.__init__" (defArgs s_LimitExceeded___init__) (defBody s_LimitExceeded___init__) (defScope s_LimitExceeded___init__) .none kV1500 dc1500 pm1500 an1500 cd1500 ct1500), sl1500⟩) (c1500 : PySem.W.codeIn K cd1500 "LimitExceeded.__init__" = true) (k1500 : PySem.W.keepIn K (.ref f1500) = true)
    (a11 : PySem.W.nsIn K mainGlobals "is_plain_int" = some (some (.ref f11))) (l11 : K.lookup f11 = some ⟨oc11, od11, .func (PySem.W.fnOf "is_plain_int" "is_plain_int" (defArgs s_is_plain_int) (defBody s_is_plain_int) (defScope s_is_plain_int) .none kV11 dc11 pm11 an11 cd11 ct11), sl11⟩) (c11 : PySem.W.codeIn K cd11 "is_plain_int" = true) (k11 : PySem.W.keepIn K (.ref f11) = true)
    (a12 : PySem.W.nsIn K mainGlobals "is_word" = some (some (.ref f12))) (l12 : K.lookup f12 = some ⟨oc12, od12, .func (PySem.W.fnOf "is_word" "is_word" (defArgs s_is_word) (defBody s_is_word) (defScope s_is_word) .none kV12 dc12 pm12 an12 cd12 ct12), sl12⟩) (c12 : PySem.W.codeIn K cd12 "is_word" = true) (k12 : PySem.W.keepIn K (.ref f12) = true)
    (a13 : PySem.W.nsIn K mainGlobals "is_value" = some (some (.ref f13))) (l13 : K.lookup f13 = some ⟨oc13, od13, .func (PySem.W.fnOf "is_value" "is_value" (defArgs s_is_value) (defBody s_is_value) (defScope s_is_value) .none kV13 dc13 pm13 an13 cd13 ct13), sl13⟩) (c13 : PySem.W.codeIn K cd13 "is_value" = true) (k13 : PySem.W.keepIn K (.ref f13) = true)
    (a14 : PySem.W.nsIn K mainGlobals "are_values" = some (some (.ref f14))) (l14 : K.lookup f14 = some ⟨oc14, od14, .func (PySem.W.fnOf "are_values" "are_values" (defArgs s_are_values) (defBody s_are_values) (defScope s_are_values) .none kV14 dc14 pm14 an14 cd14 ct14), sl14⟩) (c14 : PySem.W.codeIn K cd14 "are_values" = true) (k14 : PySem.W.keepIn K (.ref f14) = true)
    (a15 : PySem.W.nsIn K mainGlobals "columns_of" = some (some (.ref f15))) (l15 : K.lookup f15 = some ⟨oc15, od15, .func (PySem.W.fnOf "columns_of" "columns_of" (defArgs s_columns_of) (defBody s_columns_of) (defScope s_columns_of) .none kV15 dc15 pm15 an15 cd15 ct15), sl15⟩) (c15 : PySem.W.codeIn K cd15 "columns_of" = true) (k15 : PySem.W.keepIn K (.ref f15) = true)
    (a16 : PySem.W.nsIn K mainGlobals "row_key" = some (some (.ref f16))) (l16 : K.lookup f16 = some ⟨oc16, od16, .func (PySem.W.fnOf "row_key" "row_key" (defArgs s_row_key) (defBody s_row_key) (defScope s_row_key) .none kV16 dc16 pm16 an16 cd16 ct16), sl16⟩) (c16 : PySem.W.codeIn K cd16 "row_key" = true) (k16 : PySem.W.keepIn K (.ref f16) = true)
    (a17 : PySem.W.nsIn K mainGlobals "sorted_rows" = some (some (.ref f17))) (l17 : K.lookup f17 = some ⟨oc17, od17, .func (PySem.W.fnOf "sorted_rows" "sorted_rows" (defArgs s_sorted_rows) (defBody s_sorted_rows) (defScope s_sorted_rows) .none kV17 dc17 pm17 an17 cd17 ct17), sl17⟩) (c17 : PySem.W.codeIn K cd17 "sorted_rows" = true) (k17 : PySem.W.keepIn K (.ref f17) = true)
    (a23 : PySem.W.nsIn K mainGlobals "_is_count" = some (some (.ref f23))) (l23 : K.lookup f23 = some ⟨oc23, od23, .func (PySem.W.fnOf "_is_count" "_is_count" (defArgs s__is_count) (defBody s__is_count) (defScope s__is_count) .none kV23 dc23 pm23 an23 cd23 ct23), sl23⟩) (c23 : PySem.W.codeIn K cd23 "_is_count" = true) (k23 : PySem.W.keepIn K (.ref f23) = true)
    (a24 : PySem.W.nsIn K mainGlobals "_is_name_in" = some (some (.ref f24))) (l24 : K.lookup f24 = some ⟨oc24, od24, .func (PySem.W.fnOf "_is_name_in" "_is_name_in" (defArgs s__is_name_in) (defBody s__is_name_in) (defScope s__is_name_in) .none kV24 dc24 pm24 an24 cd24 ct24), sl24⟩) (c24 : PySem.W.codeIn K cd24 "_is_name_in" = true) (k24 : PySem.W.keepIn K (.ref f24) = true)
    (a25 : PySem.W.nsIn K mainGlobals "_are_columns" = some (some (.ref f25))) (l25 : K.lookup f25 = some ⟨oc25, od25, .func (PySem.W.fnOf "_are_columns" "_are_columns" (defArgs s__are_columns) (defBody s__are_columns) (defScope s__are_columns) .none kV25 dc25 pm25 an25 cd25 ct25), sl25⟩) (c25 : PySem.W.codeIn K cd25 "_are_columns" = true) (k25 : PySem.W.keepIn K (.ref f25) = true)
    (a26 : PySem.W.nsIn K mainGlobals "_is_key" = some (some (.ref f26))) (l26 : K.lookup f26 = some ⟨oc26, od26, .func (PySem.W.fnOf "_is_key" "_is_key" (defArgs s__is_key) (defBody s__is_key) (defScope s__is_key) .none kV26 dc26 pm26 an26 cd26 ct26), sl26⟩) (c26 : PySem.W.codeIn K cd26 "_is_key" = true) (k26 : PySem.W.keepIn K (.ref f26) = true)
    (a27 : PySem.W.nsIn K mainGlobals "_is_service" = some (some (.ref f27))) (l27 : K.lookup f27 = some ⟨oc27, od27, .func (PySem.W.fnOf "_is_service" "_is_service" (defArgs s__is_service) (defBody s__is_service) (defScope s__is_service) .none kV27 dc27 pm27 an27 cd27 ct27), sl27⟩) (c27 : PySem.W.codeIn K cd27 "_is_service" = true) (k27 : PySem.W.keepIn K (.ref f27) = true)
    (a28 : PySem.W.nsIn K mainGlobals "_is_whole_service" = some (some (.ref f28))) (l28 : K.lookup f28 = some ⟨oc28, od28, .func (PySem.W.fnOf "_is_whole_service" "_is_whole_service" (defArgs s__is_whole_service) (defBody s__is_whole_service) (defScope s__is_whole_service) .none kV28 dc28 pm28 an28 cd28 ct28), sl28⟩) (c28 : PySem.W.codeIn K cd28 "_is_whole_service" = true) (k28 : PySem.W.keepIn K (.ref f28) = true)
    (a29 : PySem.W.nsIn K mainGlobals "_check_tables" = some (some (.ref f29))) (l29 : K.lookup f29 = some ⟨oc29, od29, .func (PySem.W.fnOf "_check_tables" "_check_tables" (defArgs s__check_tables) (defBody s__check_tables) (defScope s__check_tables) .none kV29 dc29 pm29 an29 cd29 ct29), sl29⟩) (c29 : PySem.W.codeIn K cd29 "_check_tables" = true) (k29 : PySem.W.keepIn K (.ref f29) = true)
    (a30 : PySem.W.nsIn K mainGlobals "_check_keys" = some (some (.ref f30))) (l30 : K.lookup f30 = some ⟨oc30, od30, .func (PySem.W.fnOf "_check_keys" "_check_keys" (defArgs s__check_keys) (defBody s__check_keys) (defScope s__check_keys) .none kV30 dc30 pm30 an30 cd30 ct30), sl30⟩) (c30 : PySem.W.codeIn K cd30 "_check_keys" = true) (k30 : PySem.W.keepIn K (.ref f30) = true)
    (a31 : PySem.W.nsIn K mainGlobals "_check_services" = some (some (.ref f31))) (l31 : K.lookup f31 = some ⟨oc31, od31, .func (PySem.W.fnOf "_check_services" "_check_services" (defArgs s__check_services) (defBody s__check_services) (defScope s__check_services) .none kV31 dc31 pm31 an31 cd31 ct31), sl31⟩) (c31 : PySem.W.codeIn K cd31 "_check_services" = true) (k31 : PySem.W.keepIn K (.ref f31) = true)
    (a32 : PySem.W.nsIn K mainGlobals "_check_capped" = some (some (.ref f32))) (l32 : K.lookup f32 = some ⟨oc32, od32, .func (PySem.W.fnOf "_check_capped" "_check_capped" (defArgs s__check_capped) (defBody s__check_capped) (defScope s__check_capped) .none kV32 dc32 pm32 an32 cd32 ct32), sl32⟩) (c32 : PySem.W.codeIn K cd32 "_check_capped" = true) (k32 : PySem.W.keepIn K (.ref f32) = true)
    (a33 : PySem.W.nsIn K mainGlobals "_copied" = some (some (.ref f33))) (l33 : K.lookup f33 = some ⟨oc33, od33, .func (PySem.W.fnOf "_copied" "_copied" (defArgs s__copied) (defBody s__copied) (defScope s__copied) .none kV33 dc33 pm33 an33 cd33 ct33), sl33⟩) (c33 : PySem.W.codeIn K cd33 "_copied" = true) (k33 : PySem.W.keepIn K (.ref f33) = true)
    (l4400 : K.lookup f4400 = some ⟨oc4400, od4400, .func (PySem.W.fnOf "__init__" "Schema.__init__" (defArgs s_Schema___init__) (defBody s_Schema___init__) (defScope s_Schema___init__) .none kV4400 dc4400 pm4400 an4400 cd4400 ct4400), sl4400⟩) (c4400 : PySem.W.codeIn K cd4400 "Schema.__init__" = true) (k4400 : PySem.W.keepIn K (.ref f4400) = true)
    (l4401 : K.lookup f4401 = some ⟨oc4401, od4401, .func (PySem.W.fnOf "tables" "Schema.tables" (defArgs s_Schema_tables) (defBody s_Schema_tables) (defScope s_Schema_tables) .none kV4401 dc4401 pm4401 an4401 cd4401 ct4401), sl4401⟩) (c4401 : PySem.W.codeIn K cd4401 "Schema.tables" = true) (k4401 : PySem.W.keepIn K (.ref f4401) = true)
    (l4403 : K.lookup f4403 = some ⟨oc4403, od4403, .func (PySem.W.fnOf "services" "Schema.services" (defArgs s_Schema_services) (defBody s_Schema_services) (defScope s_Schema_services) .none kV4403 dc4403 pm4403 an4403 cd4403 ct4403), sl4403⟩) (c4403 : PySem.W.codeIn K cd4403 "Schema.services" = true) (k4403 : PySem.W.keepIn K (.ref f4403) = true)
    (l4404 : K.lookup f4404 = some ⟨oc4404, od4404, .func (PySem.W.fnOf "__eq__" "Schema.__eq__" (defArgs s_Schema___eq__) (defBody s_Schema___eq__) (defScope s_Schema___eq__) .none kV4404 dc4404 pm4404 an4404 cd4404 ct4404), sl4404⟩) (c4404 : PySem.W.codeIn K cd4404 "Schema.__eq__" = true) (k4404 : PySem.W.keepIn K (.ref f4404) = true)
    (l4405 : K.lookup f4405 = some ⟨oc4405, od4405, .func (PySem.W.fnOf "table_names" "Schema.table_names" (defArgs s_Schema_table_names) (defBody s_Schema_table_names) (defScope s_Schema_table_names) .none kV4405 dc4405 pm4405 an4405 cd4405 ct4405), sl4405⟩) (c4405 : PySem.W.codeIn K cd4405 "Schema.table_names" = true) (k4405 : PySem.W.keepIn K (.ref f4405) = true)
    (l4408 : K.lookup f4408 = some ⟨oc4408, od4408, .func (PySem.W.fnOf "width_of" "Schema.width_of" (defArgs s_Schema_width_of) (defBody s_Schema_width_of) (defScope s_Schema_width_of) .none kV4408 dc4408 pm4408 an4408 cd4408 ct4408), sl4408⟩) (c4408 : PySem.W.codeIn K cd4408 "Schema.width_of" = true) (k4408 : PySem.W.keepIn K (.ref f4408) = true)
    (l4409 : K.lookup f4409 = some ⟨oc4409, od4409, .func (PySem.W.fnOf "key_of" "Schema.key_of" (defArgs s_Schema_key_of) (defBody s_Schema_key_of) (defScope s_Schema_key_of) .none kV4409 dc4409 pm4409 an4409 cd4409 ct4409), sl4409⟩) (c4409 : PySem.W.codeIn K cd4409 "Schema.key_of" = true) (k4409 : PySem.W.keepIn K (.ref f4409) = true)
    (a35 : PySem.W.nsIn K mainGlobals "check_same" = some (some (.ref f35))) (l35 : K.lookup f35 = some ⟨oc35, od35, .func (PySem.W.fnOf "check_same" "check_same" (defArgs s_check_same) (defBody s_check_same) (defScope s_check_same) .none kV35 dc35 pm35 an35 cd35 ct35), sl35⟩) (c35 : PySem.W.codeIn K cd35 "check_same" = true) (k35 : PySem.W.keepIn K (.ref f35) = true)
    (a38 : PySem.W.nsIn K mainGlobals "_check_table" = some (some (.ref f38))) (l38 : K.lookup f38 = some ⟨oc38, od38, .func (PySem.W.fnOf "_check_table" "_check_table" (defArgs s__check_table) (defBody s__check_table) (defScope s__check_table) .none kV38 dc38 pm38 an38 cd38 ct38), sl38⟩) (c38 : PySem.W.codeIn K cd38 "_check_table" = true) (k38 : PySem.W.keepIn K (.ref f38) = true)
    (a39 : PySem.W.nsIn K mainGlobals "_by_given" = some (some (.ref f39))) (l39 : K.lookup f39 = some ⟨oc39, od39, .func (PySem.W.fnOf "_by_given" "_by_given" (defArgs s__by_given) (defBody s__by_given) (defScope s__by_given) .none kV39 dc39 pm39 an39 cd39 ct39), sl39⟩) (c39 : PySem.W.codeIn K cd39 "_by_given" = true) (k39 : PySem.W.keepIn K (.ref f39) = true)
    (l5000 : K.lookup f5000 = some ⟨oc5000, od5000, .func (PySem.W.fnOf "__init__" "Store.__init__" (defArgs s_Store___init__) (defBody s_Store___init__) (defScope s_Store___init__) .none kV5000 dc5000 pm5000 an5000 cd5000 ct5000), sl5000⟩) (c5000 : PySem.W.codeIn K cd5000 "Store.__init__" = true) (k5000 : PySem.W.keepIn K (.ref f5000) = true)
    (l5001 : K.lookup f5001 = some ⟨oc5001, od5001, .func (PySem.W.fnOf "__getitem__" "Store.__getitem__" (defArgs s_Store___getitem__) (defBody s_Store___getitem__) (defScope s_Store___getitem__) .none kV5001 dc5001 pm5001 an5001 cd5001 ct5001), sl5001⟩) (c5001 : PySem.W.codeIn K cd5001 "Store.__getitem__" = true) (k5001 : PySem.W.keepIn K (.ref f5001) = true)
    (l5003 : K.lookup f5003 = some ⟨oc5003, od5003, .func (PySem.W.fnOf "__contains__" "Store.__contains__" (defArgs s_Store___contains__) (defBody s_Store___contains__) (defScope s_Store___contains__) .none kV5003 dc5003 pm5003 an5003 cd5003 ct5003), sl5003⟩) (c5003 : PySem.W.codeIn K cd5003 "Store.__contains__" = true) (k5003 : PySem.W.keepIn K (.ref f5003) = true)
    (l5004 : K.lookup f5004 = some ⟨oc5004, od5004, .func (PySem.W.fnOf "__len__" "Store.__len__" (defArgs s_Store___len__) (defBody s_Store___len__) (defScope s_Store___len__) .none kV5004 dc5004 pm5004 an5004 cd5004 ct5004), sl5004⟩) (c5004 : PySem.W.codeIn K cd5004 "Store.__len__" = true) (k5004 : PySem.W.keepIn K (.ref f5004) = true)
    (l5006 : K.lookup f5006 = some ⟨oc5006, od5006, .func (PySem.W.fnOf "__or__" "Store.__or__" (defArgs s_Store___or__) (defBody s_Store___or__) (defScope s_Store___or__) .none kV5006 dc5006 pm5006 an5006 cd5006 ct5006), sl5006⟩) (c5006 : PySem.W.codeIn K cd5006 "Store.__or__" = true) (k5006 : PySem.W.keepIn K (.ref f5006) = true)
    (a42 : PySem.W.nsIn K mainGlobals "_law_pool" = some (some (.ref f42))) (l42 : K.lookup f42 = some ⟨oc42, od42, .func (PySem.W.fnOf "_law_pool" "_law_pool" (defArgs s__law_pool) (defBody s__law_pool) (defScope s__law_pool) .none kV42 dc42 pm42 an42 cd42 ct42), sl42⟩) (c42 : PySem.W.codeIn K cd42 "_law_pool" = true) (k42 : PySem.W.keepIn K (.ref f42) = true)
    (a43 : PySem.W.nsIn K mainGlobals "_law_mixed" = some (some (.ref f43))) (l43 : K.lookup f43 = some ⟨oc43, od43, .func (PySem.W.fnOf "_law_mixed" "_law_mixed" (defArgs s__law_mixed) (defBody s__law_mixed) (defScope s__law_mixed) .none kV43 dc43 pm43 an43 cd43 ct43), sl43⟩) (c43 : PySem.W.codeIn K cd43 "_law_mixed" = true) (k43 : PySem.W.keepIn K (.ref f43) = true)
    (a44 : PySem.W.nsIn K mainGlobals "_law_draw" = some (some (.ref f44))) (l44 : K.lookup f44 = some ⟨oc44, od44, .func (PySem.W.fnOf "_law_draw" "_law_draw" (defArgs s__law_draw) (defBody s__law_draw) (defScope s__law_draw) .none kV44 dc44 pm44 an44 cd44 ct44), sl44⟩) (c44 : PySem.W.codeIn K cd44 "_law_draw" = true) (k44 : PySem.W.keepIn K (.ref f44) = true)
    (a45 : PySem.W.nsIn K mainGlobals "_law_rank" = some (some (.ref f45))) (l45 : K.lookup f45 = some ⟨oc45, od45, .func (PySem.W.fnOf "_law_rank" "_law_rank" (defArgs s__law_rank) (defBody s__law_rank) (defScope s__law_rank) .none kV45 dc45 pm45 an45 cd45 ct45), sl45⟩) (c45 : PySem.W.codeIn K cd45 "_law_rank" = true) (k45 : PySem.W.keepIn K (.ref f45) = true)
    (a46 : PySem.W.nsIn K mainGlobals "_law_sorted" = some (some (.ref f46))) (l46 : K.lookup f46 = some ⟨oc46, od46, .func (PySem.W.fnOf "_law_sorted" "_law_sorted" (defArgs s__law_sorted) (defBody s__law_sorted) (defScope s__law_sorted) .none kV46 dc46 pm46 an46 cd46 ct46), sl46⟩) (c46 : PySem.W.codeIn K cd46 "_law_sorted" = true) (k46 : PySem.W.keepIn K (.ref f46) = true)
    (a47 : PySem.W.nsIn K mainGlobals "_law_lines" = some (some (.ref f47))) (l47 : K.lookup f47 = some ⟨oc47, od47, .func (PySem.W.fnOf "_law_lines" "_law_lines" (defArgs s__law_lines) (defBody s__law_lines) (defScope s__law_lines) .none kV47 dc47 pm47 an47 cd47 ct47), sl47⟩) (c47 : PySem.W.codeIn K cd47 "_law_lines" = true) (k47 : PySem.W.keepIn K (.ref f47) = true)
    (a48 : PySem.W.nsIn K mainGlobals "_law_union" = some (some (.ref f48))) (l48 : K.lookup f48 = some ⟨oc48, od48, .func (PySem.W.fnOf "_law_union" "_law_union" (defArgs s__law_union) (defBody s__law_union) (defScope s__law_union) .none kV48 dc48 pm48 an48 cd48 ct48), sl48⟩) (c48 : PySem.W.codeIn K cd48 "_law_union" = true) (k48 : PySem.W.keepIn K (.ref f48) = true)
    (a49 : PySem.W.nsIn K mainGlobals "law" = some (some (.ref f49))) (l49 : K.lookup f49 = some ⟨oc49, od49, .func (PySem.W.fnOf "law" "law" (defArgs s_law) (defBody s_law) (defScope s_law) .none kV49 dc49 pm49 an49 cd49 ct49), sl49⟩) (c49 : PySem.W.codeIn K cd49 "law" = true) (k49 : PySem.W.keepIn K (.ref f49) = true)
    (xl_2 : K.lookup f2 = some (excClassObj nm_2 qn_2 f2 N_2 bs_2 [.type "ValueError", .type "Exception", .type "BaseException", .type "object"] true sn_2 sub_2 ab_2 col_2 dd_2 m0_2 m1_2 m2_2 m3_2 m5_2 "ValueError.__new__"))
    (xs_2 : PySem.W.findIn K (.ref f2) "__setattr__" = some (some (.builtin "object.__setattr__")))
    (xe_2 : PySem.W.subIn K (.ref f2) (.type "BaseException") = some true)
    (xt_2 : PySem.W.typeIn K (.ref f2) = some (.type "type"))
    (xk_2 : PySem.W.keepIn K (.ref f2) = true)
    (ya_2 : PySem.W.findIn K (.ref f2) "__getattribute__" = some (some (.builtin "BaseException.__getattribute__")))
    (yg_2 : PySem.W.findIn K (.ref f2) "__getattr__" = some none)
    (yh_2 : PySem.W.hasDictIn K f2 = true)
    (za_2 : PySem.W.findIn K (.ref f2) "__class__" = some (some (.builtin "object.__class__")))
    (zn_2 : PySem.W.specialIn K (.builtin "object.__class__") "__get__" = some (some (.builtin "getset_descriptor.__get__")))
    (zt_2 : PySem.W.takesIn K (.builtin "object.__class__") = some true)
    (zm_2 : PySem.W.mroIn K f2 (.type "object") = some true)
    (xl_3 : K.lookup f3 = some (excClassObj nm_3 qn_3 f3 N_3 bs_3 [.ref f2, .type "ValueError", .type "Exception", .type "BaseException", .type "object"] true sn_3 sub_3 ab_3 col_3 dd_3 m0_3 m1_3 m2_3 m3_3 m5_3 "ValueError.__new__"))
    (xs_3 : PySem.W.findIn K (.ref f3) "__setattr__" = some (some (.builtin "object.__setattr__")))
    (xe_3 : PySem.W.subIn K (.ref f3) (.type "BaseException") = some true)
    (xt_3 : PySem.W.typeIn K (.ref f3) = some (.type "type"))
    (xk_3 : PySem.W.keepIn K (.ref f3) = true)
    (ya_3 : PySem.W.findIn K (.ref f3) "__getattribute__" = some (some (.builtin "BaseException.__getattribute__")))
    (yg_3 : PySem.W.findIn K (.ref f3) "__getattr__" = some none)
    (yh_3 : PySem.W.hasDictIn K f3 = true)
    (za_3 : PySem.W.findIn K (.ref f3) "__class__" = some (some (.builtin "object.__class__")))
    (zn_3 : PySem.W.specialIn K (.builtin "object.__class__") "__get__" = some (some (.builtin "getset_descriptor.__get__")))
    (zt_3 : PySem.W.takesIn K (.builtin "object.__class__") = some true)
    (zm_3 : PySem.W.mroIn K f3 (.type "object") = some true)
    (ty_3 : PySem.W.typeIn K (.ref f1300) = some (.type "function"))
    (na_3_name : PySem.W.findIn K (.ref f3) "name" = some none)
    (xl_4 : K.lookup f4 = some (excClassObj nm_4 qn_4 f4 N_4 bs_4 [.ref f2, .type "ValueError", .type "Exception", .type "BaseException", .type "object"] true sn_4 sub_4 ab_4 col_4 dd_4 m0_4 m1_4 m2_4 m3_4 m5_4 "ValueError.__new__"))
    (xs_4 : PySem.W.findIn K (.ref f4) "__setattr__" = some (some (.builtin "object.__setattr__")))
    (xe_4 : PySem.W.subIn K (.ref f4) (.type "BaseException") = some true)
    (xt_4 : PySem.W.typeIn K (.ref f4) = some (.type "type"))
    (xk_4 : PySem.W.keepIn K (.ref f4) = true)
    (ya_4 : PySem.W.findIn K (.ref f4) "__getattribute__" = some (some (.builtin "BaseException.__getattribute__")))
    (yg_4 : PySem.W.findIn K (.ref f4) "__getattr__" = some none)
    (yh_4 : PySem.W.hasDictIn K f4 = true)
    (za_4 : PySem.W.findIn K (.ref f4) "__class__" = some (some (.builtin "object.__class__")))
    (zn_4 : PySem.W.specialIn K (.builtin "object.__class__") "__get__" = some (some (.builtin "getset_descriptor.__get__")))
    (zt_4 : PySem.W.takesIn K (.builtin "object.__class__") = some true)
    (zm_4 : PySem.W.mroIn K f4 (.type "object") = some true)
    (qx_4 : PySem.W.excIn K f4 [.type "ValueError", .type "Exception", .type "BaseException", .type "object"] "ValueError.__new__" = true)
    (xl_7 : K.lookup f7 = some (excClassObj nm_7 qn_7 f7 N_7 bs_7 [.ref f2, .type "ValueError", .type "Exception", .type "BaseException", .type "object"] true sn_7 sub_7 ab_7 col_7 dd_7 m0_7 m1_7 m2_7 m3_7 m5_7 "ValueError.__new__"))
    (xs_7 : PySem.W.findIn K (.ref f7) "__setattr__" = some (some (.builtin "object.__setattr__")))
    (xe_7 : PySem.W.subIn K (.ref f7) (.type "BaseException") = some true)
    (xt_7 : PySem.W.typeIn K (.ref f7) = some (.type "type"))
    (xk_7 : PySem.W.keepIn K (.ref f7) = true)
    (ya_7 : PySem.W.findIn K (.ref f7) "__getattribute__" = some (some (.builtin "BaseException.__getattribute__")))
    (yg_7 : PySem.W.findIn K (.ref f7) "__getattr__" = some none)
    (yh_7 : PySem.W.hasDictIn K f7 = true)
    (za_7 : PySem.W.findIn K (.ref f7) "__class__" = some (some (.builtin "object.__class__")))
    (zn_7 : PySem.W.specialIn K (.builtin "object.__class__") "__get__" = some (some (.builtin "getset_descriptor.__get__")))
    (zt_7 : PySem.W.takesIn K (.builtin "object.__class__") = some true)
    (zm_7 : PySem.W.mroIn K f7 (.type "object") = some true)
    (ty_7 : PySem.W.typeIn K (.ref f1700) = some (.type "function"))
    (na_7_table : PySem.W.findIn K (.ref f7) "table" = some none)
    (na_7_at : PySem.W.findIn K (.ref f7) "at" = some none)
    (xl_5 : K.lookup f5 = some (excClassObj nm_5 qn_5 f5 N_5 bs_5 [.ref f2, .type "ValueError", .type "Exception", .type "BaseException", .type "object"] true sn_5 sub_5 ab_5 col_5 dd_5 m0_5 m1_5 m2_5 m3_5 m5_5 "ValueError.__new__"))
    (xs_5 : PySem.W.findIn K (.ref f5) "__setattr__" = some (some (.builtin "object.__setattr__")))
    (xe_5 : PySem.W.subIn K (.ref f5) (.type "BaseException") = some true)
    (xt_5 : PySem.W.typeIn K (.ref f5) = some (.type "type"))
    (xk_5 : PySem.W.keepIn K (.ref f5) = true)
    (ya_5 : PySem.W.findIn K (.ref f5) "__getattribute__" = some (some (.builtin "BaseException.__getattribute__")))
    (yg_5 : PySem.W.findIn K (.ref f5) "__getattr__" = some none)
    (yh_5 : PySem.W.hasDictIn K f5 = true)
    (za_5 : PySem.W.findIn K (.ref f5) "__class__" = some (some (.builtin "object.__class__")))
    (zn_5 : PySem.W.specialIn K (.builtin "object.__class__") "__get__" = some (some (.builtin "getset_descriptor.__get__")))
    (zt_5 : PySem.W.takesIn K (.builtin "object.__class__") = some true)
    (zm_5 : PySem.W.mroIn K f5 (.type "object") = some true)
    (ty_5 : PySem.W.typeIn K (.ref f1500) = some (.type "function"))
    (na_5_limit : PySem.W.findIn K (.ref f5) "limit" = some none)
    (pg_34 : PySem.W.plainGet K f34 Str.empty = true)
    (hd_34 : PySem.W.hasDictIn K f34 = true)
    (po_34 : PySem.W.plainOver K f34 = true)
    (sa_34 : PySem.W.findIn K (.ref f34) "__setattr__" = some (some (.builtin "object.__setattr__")))
    (mk_34 : PySem.W.makesIn K f34 = true)
    (is_4400 : PySem.W.isFn K (.ref f4400) = true)
    (kc_34 : PySem.W.keepIn K (.ref f34) = true)
    (na_34__tables : PySem.W.findIn K (.ref f34) "_tables" = some none)
    (na_34__keys : PySem.W.findIn K (.ref f34) "_keys" = some none)
    (na_34__services : PySem.W.findIn K (.ref f34) "_services" = some none)
    (pg_40 : PySem.W.plainGet K f40 Str.empty = true)
    (hd_40 : PySem.W.hasDictIn K f40 = true)
    (po_40 : PySem.W.plainOver K f40 = true)
    (sa_40 : PySem.W.findIn K (.ref f40) "__setattr__" = some (some (.builtin "object.__setattr__")))
    (mk_40 : PySem.W.makesIn K f40 = true)
    (is_5000 : PySem.W.isFn K (.ref f5000) = true)
    (kc_40 : PySem.W.keepIn K (.ref f40) = true)
    (na_40_schema : PySem.W.findIn K (.ref f40) "schema" = some none)
    (na_40__rows : PySem.W.findIn K (.ref f40) "_rows" = some none)
    (na_40__fitting : PySem.W.findIn K (.ref f40) "_fitting" = some none)
    (oa_34 : PySem.W.findIn K (.ref f34) "__class__" = some (some (.builtin "object.__class__")))
    (on_34 : PySem.W.specialIn K (.builtin "object.__class__") "__get__" = some (some (.builtin "getset_descriptor.__get__")))
    (ot_34 : PySem.W.takesIn K (.builtin "object.__class__") = some true)
    (om_34 : PySem.W.mroIn K f34 (.type "object") = some true)
    (ne_34 : PySem.W.findIn K (.ref f34) "__ne__" = some (some (.builtin "object.__ne__")))
    (es_7_7 : PySem.W.subIn K (.ref f7) (.ref f7) = some true)
    (es_5_5 : PySem.W.subIn K (.ref f5) (.ref f5) = some true)
    (ef_5_7 : PySem.W.subIn K (.ref f5) (.ref f7) = some false)
    (pb_4401 : PySem.W.specialIn K (.ref f54401) "__get__" = some (some (.builtin "property.__get__")))
    (pc_4401 : PySem.W.takesIn K (.ref f54401) = some true)
    (pb_4403 : PySem.W.specialIn K (.ref f54403) "__get__" = some (some (.builtin "property.__get__")))
    (pc_4403 : PySem.W.takesIn K (.ref f54403) = some true)
    (mi_4404 : PySem.W.isFn K (.ref f4404) = true)
    (mi_4405 : PySem.W.isFn K (.ref f4405) = true)
    (mi_4408 : PySem.W.isFn K (.ref f4408) = true)
    (mi_4409 : PySem.W.isFn K (.ref f4409) = true)
    (mi_5001 : PySem.W.isFn K (.ref f5001) = true)
    (mi_5003 : PySem.W.isFn K (.ref f5003) = true)
    (mi_5004 : PySem.W.isFn K (.ref f5004) = true)
    (mi_5006 : PySem.W.isFn K (.ref f5006) = true)
    (sf_40 : PySem.W.selfFirst K f40 = true)
    (z_abs : PySem.W.nsIn K mainGlobals "abs" = some none)
    (z_all : PySem.W.nsIn K mainGlobals "all" = some none)
    (z_bool : PySem.W.nsIn K mainGlobals "bool" = some none)
    (z_dict : PySem.W.nsIn K mainGlobals "dict" = some none)
    (z_enumerate : PySem.W.nsIn K mainGlobals "enumerate" = some none)
    (z_int : PySem.W.nsIn K mainGlobals "int" = some none)
    (z_isinstance : PySem.W.nsIn K mainGlobals "isinstance" = some none)
    (z_len : PySem.W.nsIn K mainGlobals "len" = some none)
    (z_list : PySem.W.nsIn K mainGlobals "list" = some none)
    (z_range : PySem.W.nsIn K mainGlobals "range" = some none)
    (z_sorted : PySem.W.nsIn K mainGlobals "sorted" = some none)
    (z_str : PySem.W.nsIn K mainGlobals "str" = some none)
    (z_sum : PySem.W.nsIn K mainGlobals "sum" = some none)
    (z_tuple : PySem.W.nsIn K mainGlobals "tuple" = some none)
    {t_LONGEST_WORD : Tok} (v_LONGEST_WORD : PySem.W.nsIn K mainGlobals "LONGEST_WORD" = some (some (.int (8) t_LONGEST_WORD)))
    {t_GREATEST_VALUE : Tok} (v_GREATEST_VALUE : PySem.W.nsIn K mainGlobals "GREATEST_VALUE" = some (some (.int (999999999999999999999999999999) t_GREATEST_VALUE)))
    {t_MOST_TABLES : Tok} (v_MOST_TABLES : PySem.W.nsIn K mainGlobals "MOST_TABLES" = some (some (.int (5) t_MOST_TABLES)))
    {t_MOST_WIDTH : Tok} (v_MOST_WIDTH : PySem.W.nsIn K mainGlobals "MOST_WIDTH" = some (some (.int (4) t_MOST_WIDTH)))
    {t_MOST_SERVICES : Tok} (v_MOST_SERVICES : PySem.W.nsIn K mainGlobals "MOST_SERVICES" = some (some (.int (8) t_MOST_SERVICES)))
    {t_MOST_CAP : Tok} (v_MOST_CAP : PySem.W.nsIn K mainGlobals "MOST_CAP" = some (some (.int (4) t_MOST_CAP)))
    {t_MOST_ROWS : Tok} (v_MOST_ROWS : PySem.W.nsIn K mainGlobals "MOST_ROWS" = some (some (.int (400) t_MOST_ROWS)))
    : ∃ fd : FuncData, (∀ (s : Shared) (v : Value), BindsTo s fd ⟨[v], []⟩ [("_law_script", v)]) ∧ ∀ base : Heap, K.In base → base.Ns mainGlobals mg → FnOk P w K mg base CX0 10 fa fd ["_law_script"] (spLaw K) := by
  have e := hfa.symm.trans (PySem.W.mg_of X G a49)
  cases e
  have F1300 := fun_mk (st := s_UnknownName___init__) l1300 c1300 k1300
  have b1300 := F1300.binds (ps := ["self", "name"]) fun _ _ _ _ _ _ us hl => match us, hl with | [_, _], _ => rfl
  have F1700 := fun_mk (st := s_InvalidStore___init__) l1700 c1700 k1700
  have b1700 := F1700.binds (ps := ["self", "table", "at"]) fun _ _ _ _ _ _ us hl => match us, hl with | [_, _, _], _ => rfl
  have F1500 := fun_mk (st := s_LimitExceeded___init__) l1500 c1500 k1500
  have b1500 := F1500.binds (ps := ["self", "limit"]) fun _ _ _ _ _ _ us hl => match us, hl with | [_, _], _ => rfl
  have F11 := fun_mk (st := s_is_plain_int) l11 c11 k11
  have b11 := F11.binds (ps := ["thing"]) fun _ _ _ _ _ _ us hl => match us, hl with | [_], _ => rfl
  have F12 := fun_mk (st := s_is_word) l12 c12 k12
  have b12 := F12.binds (ps := ["thing"]) fun _ _ _ _ _ _ us hl => match us, hl with | [_], _ => rfl
  have F13 := fun_mk (st := s_is_value) l13 c13 k13
  have b13 := F13.binds (ps := ["thing"]) fun _ _ _ _ _ _ us hl => match us, hl with | [_], _ => rfl
  have F14 := fun_mk (st := s_are_values) l14 c14 k14
  have b14 := F14.binds (ps := ["thing", "many"]) fun _ _ _ _ _ _ us hl => match us, hl with | [_, _], _ => rfl
  have F15 := fun_mk (st := s_columns_of) l15 c15 k15
  have b15 := F15.binds (ps := ["row", "columns"]) fun _ _ _ _ _ _ us hl => match us, hl with | [_, _], _ => rfl
  have F16 := fun_mk (st := s_row_key) l16 c16 k16
  have b16 := F16.binds (ps := ["row"]) fun _ _ _ _ _ _ us hl => match us, hl with | [_], _ => rfl
  have F17 := fun_mk (st := s_sorted_rows) l17 c17 k17
  have b17 := F17.binds (ps := ["rows"]) fun _ _ _ _ _ _ us hl => match us, hl with | [_], _ => rfl
  have F23 := fun_mk (st := s__is_count) l23 c23 k23
  have b23 := F23.binds (ps := ["thing", "most"]) fun _ _ _ _ _ _ us hl => match us, hl with | [_, _], _ => rfl
  have F24 := fun_mk (st := s__is_name_in) l24 c24 k24
  have b24 := F24.binds (ps := ["thing", "names"]) fun _ _ _ _ _ _ us hl => match us, hl with | [_, _], _ => rfl
  have F25 := fun_mk (st := s__are_columns) l25 c25 k25
  have b25 := F25.binds (ps := ["thing", "width"]) fun _ _ _ _ _ _ us hl => match us, hl with | [_, _], _ => rfl
  have F26 := fun_mk (st := s__is_key) l26 c26 k26
  have b26 := F26.binds (ps := ["thing", "width"]) fun _ _ _ _ _ _ us hl => match us, hl with | [_, _], _ => rfl
  have F27 := fun_mk (st := s__is_service) l27 c27 k27
  have b27 := F27.binds (ps := ["thing", "tables"]) fun _ _ _ _ _ _ us hl => match us, hl with | [_, _], _ => rfl
  have F28 := fun_mk (st := s__is_whole_service) l28 c28 k28
  have b28 := F28.binds (ps := ["service", "tables", "keys"]) fun _ _ _ _ _ _ us hl => match us, hl with | [_, _, _], _ => rfl
  have F29 := fun_mk (st := s__check_tables) l29 c29 k29
  have b29 := F29.binds (ps := ["tables"]) fun _ _ _ _ _ _ us hl => match us, hl with | [_], _ => rfl
  have F30 := fun_mk (st := s__check_keys) l30 c30 k30
  have b30 := F30.binds (ps := ["keys", "tables"]) fun _ _ _ _ _ _ us hl => match us, hl with | [_, _], _ => rfl
  have F31 := fun_mk (st := s__check_services) l31 c31 k31
  have b31 := F31.binds (ps := ["services", "tables"]) fun _ _ _ _ _ _ us hl => match us, hl with | [_, _], _ => rfl
  have F32 := fun_mk (st := s__check_capped) l32 c32 k32
  have b32 := F32.binds (ps := ["services", "tables", "keys"]) fun _ _ _ _ _ _ us hl => match us, hl with | [_, _, _], _ => rfl
  have F33 := fun_mk (st := s__copied) l33 c33 k33
  have b33 := F33.binds (ps := ["things"]) fun _ _ _ _ _ _ us hl => match us, hl with | [_], _ => rfl
  have F4400 := fun_mk (st := s_Schema___init__) l4400 c4400 k4400
  have b4400 := F4400.binds (ps := ["self", "tables", "keys", "services"]) fun _ _ _ _ _ _ us hl => match us, hl with | [_, _, _, _], _ => rfl
  have F4401 := fun_mk (st := s_Schema_tables) l4401 c4401 k4401
  have b4401 := F4401.binds (ps := ["self"]) fun _ _ _ _ _ _ us hl => match us, hl with | [_], _ => rfl
  have F4403 := fun_mk (st := s_Schema_services) l4403 c4403 k4403
  have b4403 := F4403.binds (ps := ["self"]) fun _ _ _ _ _ _ us hl => match us, hl with | [_], _ => rfl
  have F4404 := fun_mk (st := s_Schema___eq__) l4404 c4404 k4404
  have b4404 := F4404.binds (ps := ["self", "other"]) fun _ _ _ _ _ _ us hl => match us, hl with | [_, _], _ => rfl
  have F4405 := fun_mk (st := s_Schema_table_names) l4405 c4405 k4405
  have b4405 := F4405.binds (ps := ["self"]) fun _ _ _ _ _ _ us hl => match us, hl with | [_], _ => rfl
  have F4408 := fun_mk (st := s_Schema_width_of) l4408 c4408 k4408
  have b4408 := F4408.binds (ps := ["self", "table"]) fun _ _ _ _ _ _ us hl => match us, hl with | [_, _], _ => rfl
  have F4409 := fun_mk (st := s_Schema_key_of) l4409 c4409 k4409
  have b4409 := F4409.binds (ps := ["self", "table"]) fun _ _ _ _ _ _ us hl => match us, hl with | [_, _], _ => rfl
  have F35 := fun_mk (st := s_check_same) l35 c35 k35
  have b35 := F35.binds (ps := ["one", "other"]) fun _ _ _ _ _ _ us hl => match us, hl with | [_, _], _ => rfl
  have F38 := fun_mk (st := s__check_table) l38 c38 k38
  have b38 := F38.binds (ps := ["schema", "table", "rows"]) fun _ _ _ _ _ _ us hl => match us, hl with | [_, _, _], _ => rfl
  have F39 := fun_mk (st := s__by_given) l39 c39 k39
  have b39 := F39.binds (ps := ["rows", "given"]) fun _ _ _ _ _ _ us hl => match us, hl with | [_, _], _ => rfl
  have F5000 := fun_mk (st := s_Store___init__) l5000 c5000 k5000
  have b5000 := F5000.binds (ps := ["self", "schema", "rows"]) fun _ _ _ _ _ _ us hl => match us, hl with | [_, _, _], _ => rfl
  have F5001 := fun_mk (st := s_Store___getitem__) l5001 c5001 k5001
  have b5001 := F5001.binds (ps := ["self", "table"]) fun _ _ _ _ _ _ us hl => match us, hl with | [_, _], _ => rfl
  have F5003 := fun_mk (st := s_Store___contains__) l5003 c5003 k5003
  have b5003 := F5003.binds (ps := ["self", "place"]) fun _ _ _ _ _ _ us hl => match us, hl with | [_, _], _ => rfl
  have F5004 := fun_mk (st := s_Store___len__) l5004 c5004 k5004
  have b5004 := F5004.binds (ps := ["self"]) fun _ _ _ _ _ _ us hl => match us, hl with | [_], _ => rfl
  have F5006 := fun_mk (st := s_Store___or__) l5006 c5006 k5006
  have b5006 := F5006.binds (ps := ["self", "other"]) fun _ _ _ _ _ _ us hl => match us, hl with | [_, _], _ => rfl
  have F42 := fun_mk (st := s__law_pool) l42 c42 k42
  have b42 := F42.binds (ps := ["_law_script"]) fun _ _ _ _ _ _ us hl => match us, hl with | [_], _ => rfl
  have F43 := fun_mk (st := s__law_mixed) l43 c43 k43
  have b43 := F43.binds (ps := ["_law_seed", "_law_count"]) fun _ _ _ _ _ _ us hl => match us, hl with | [_, _], _ => rfl
  have F44 := fun_mk (st := s__law_draw) l44 c44 k44
  have b44 := F44.binds (ps := ["_law_pool_here", "_law_many"]) fun _ _ _ _ _ _ us hl => match us, hl with | [_, _], _ => rfl
  have F45 := fun_mk (st := s__law_rank) l45 c45 k45
  have b45 := F45.binds (ps := ["_law_row"]) fun _ _ _ _ _ _ us hl => match us, hl with | [_], _ => rfl
  have F46 := fun_mk (st := s__law_sorted) l46 c46 k46
  have b46 := F46.binds (ps := ["_law_rows"]) fun _ _ _ _ _ _ us hl => match us, hl with | [_], _ => rfl
  have F47 := fun_mk (st := s__law_lines) l47 c47 k47
  have b47 := F47.binds (ps := ["_law_width", "_law_first", "_law_last"]) fun _ _ _ _ _ _ us hl => match us, hl with | [_, _, _], _ => rfl
  have F48 := fun_mk (st := s__law_union) l48 c48 k48
  have b48 := F48.binds (ps := ["_law_one", "_law_other"]) fun _ _ _ _ _ _ us hl => match us, hl with | [_, _], _ => rfl
  have F49 := fun_mk (st := s_law) l49 c49 k49
  have b49 := F49.binds (ps := ["_law_script"]) fun _ _ _ _ _ _ us hl => match us, hl with | [_], _ => rfl
  let aa : Nat → Addr := fun i => match i with
    | 2 => f2
    | 3 => f3
    | 4 => f4
    | 5 => f5
    | 7 => f7
    | 11 => f11
    | 12 => f12
    | 13 => f13
    | 14 => f14
    | 15 => f15
    | 16 => f16
    | 17 => f17
    | 23 => f23
    | 24 => f24
    | 25 => f25
    | 26 => f26
    | 27 => f27
    | 28 => f28
    | 29 => f29
    | 30 => f30
    | 31 => f31
    | 32 => f32
    | 33 => f33
    | 34 => f34
    | 35 => f35
    | 38 => f38
    | 39 => f39
    | 40 => f40
    | 42 => f42
    | 43 => f43
    | 44 => f44
    | 45 => f45
    | 46 => f46
    | 47 => f47
    | 48 => f48
    | 49 => fa
    | 1300 => f1300
    | 1500 => f1500
    | 1700 => f1700
    | 4400 => f4400
    | 4401 => f4401
    | 4403 => f4403
    | 4404 => f4404
    | 4405 => f4405
    | 4408 => f4408
    | 4409 => f4409
    | 5000 => f5000
    | 5001 => f5001
    | 5003 => f5003
    | 5004 => f5004
    | 5006 => f5006
    | 54401 => f54401
    | 54403 => f54403
    | _ => 0
  let dd : Nat → FuncData := fun i => match i with
    | 11 => PySem.W.fnOf "is_plain_int" "is_plain_int" (defArgs s_is_plain_int) (defBody s_is_plain_int) (defScope s_is_plain_int) .none kV11 dc11 pm11 an11 cd11 ct11
    | 12 => PySem.W.fnOf "is_word" "is_word" (defArgs s_is_word) (defBody s_is_word) (defScope s_is_word) .none kV12 dc12 pm12 an12 cd12 ct12
    | 13 => PySem.W.fnOf "is_value" "is_value" (defArgs s_is_value) (defBody s_is_value) (defScope s_is_value) .none kV13 dc13 pm13 an13 cd13 ct13
    | 14 => PySem.W.fnOf "are_values" "are_values" (defArgs s_are_values) (defBody s_are_values) (defScope s_are_values) .none kV14 dc14 pm14 an14 cd14 ct14
    | 15 => PySem.W.fnOf "columns_of" "columns_of" (defArgs s_columns_of) (defBody s_columns_of) (defScope s_columns_of) .none kV15 dc15 pm15 an15 cd15 ct15
    | 16 => PySem.W.fnOf "row_key" "row_key" (defArgs s_row_key) (defBody s_row_key) (defScope s_row_key) .none kV16 dc16 pm16 an16 cd16 ct16
    | 17 => PySem.W.fnOf "sorted_rows" "sorted_rows" (defArgs s_sorted_rows) (defBody s_sorted_rows) (defScope s_sorted_rows) .none kV17 dc17 pm17 an17 cd17 ct17
    | 23 => PySem.W.fnOf "_is_count" "_is_count" (defArgs s__is_count) (defBody s__is_count) (defScope s__is_count) .none kV23 dc23 pm23 an23 cd23 ct23
    | 24 => PySem.W.fnOf "_is_name_in" "_is_name_in" (defArgs s__is_name_in) (defBody s__is_name_in) (defScope s__is_name_in) .none kV24 dc24 pm24 an24 cd24 ct24
    | 25 => PySem.W.fnOf "_are_columns" "_are_columns" (defArgs s__are_columns) (defBody s__are_columns) (defScope s__are_columns) .none kV25 dc25 pm25 an25 cd25 ct25
    | 26 => PySem.W.fnOf "_is_key" "_is_key" (defArgs s__is_key) (defBody s__is_key) (defScope s__is_key) .none kV26 dc26 pm26 an26 cd26 ct26
    | 27 => PySem.W.fnOf "_is_service" "_is_service" (defArgs s__is_service) (defBody s__is_service) (defScope s__is_service) .none kV27 dc27 pm27 an27 cd27 ct27
    | 28 => PySem.W.fnOf "_is_whole_service" "_is_whole_service" (defArgs s__is_whole_service) (defBody s__is_whole_service) (defScope s__is_whole_service) .none kV28 dc28 pm28 an28 cd28 ct28
    | 29 => PySem.W.fnOf "_check_tables" "_check_tables" (defArgs s__check_tables) (defBody s__check_tables) (defScope s__check_tables) .none kV29 dc29 pm29 an29 cd29 ct29
    | 30 => PySem.W.fnOf "_check_keys" "_check_keys" (defArgs s__check_keys) (defBody s__check_keys) (defScope s__check_keys) .none kV30 dc30 pm30 an30 cd30 ct30
    | 31 => PySem.W.fnOf "_check_services" "_check_services" (defArgs s__check_services) (defBody s__check_services) (defScope s__check_services) .none kV31 dc31 pm31 an31 cd31 ct31
    | 32 => PySem.W.fnOf "_check_capped" "_check_capped" (defArgs s__check_capped) (defBody s__check_capped) (defScope s__check_capped) .none kV32 dc32 pm32 an32 cd32 ct32
    | 33 => PySem.W.fnOf "_copied" "_copied" (defArgs s__copied) (defBody s__copied) (defScope s__copied) .none kV33 dc33 pm33 an33 cd33 ct33
    | 35 => PySem.W.fnOf "check_same" "check_same" (defArgs s_check_same) (defBody s_check_same) (defScope s_check_same) .none kV35 dc35 pm35 an35 cd35 ct35
    | 38 => PySem.W.fnOf "_check_table" "_check_table" (defArgs s__check_table) (defBody s__check_table) (defScope s__check_table) .none kV38 dc38 pm38 an38 cd38 ct38
    | 39 => PySem.W.fnOf "_by_given" "_by_given" (defArgs s__by_given) (defBody s__by_given) (defScope s__by_given) .none kV39 dc39 pm39 an39 cd39 ct39
    | 42 => PySem.W.fnOf "_law_pool" "_law_pool" (defArgs s__law_pool) (defBody s__law_pool) (defScope s__law_pool) .none kV42 dc42 pm42 an42 cd42 ct42
    | 43 => PySem.W.fnOf "_law_mixed" "_law_mixed" (defArgs s__law_mixed) (defBody s__law_mixed) (defScope s__law_mixed) .none kV43 dc43 pm43 an43 cd43 ct43
    | 44 => PySem.W.fnOf "_law_draw" "_law_draw" (defArgs s__law_draw) (defBody s__law_draw) (defScope s__law_draw) .none kV44 dc44 pm44 an44 cd44 ct44
    | 45 => PySem.W.fnOf "_law_rank" "_law_rank" (defArgs s__law_rank) (defBody s__law_rank) (defScope s__law_rank) .none kV45 dc45 pm45 an45 cd45 ct45
    | 46 => PySem.W.fnOf "_law_sorted" "_law_sorted" (defArgs s__law_sorted) (defBody s__law_sorted) (defScope s__law_sorted) .none kV46 dc46 pm46 an46 cd46 ct46
    | 47 => PySem.W.fnOf "_law_lines" "_law_lines" (defArgs s__law_lines) (defBody s__law_lines) (defScope s__law_lines) .none kV47 dc47 pm47 an47 cd47 ct47
    | 48 => PySem.W.fnOf "_law_union" "_law_union" (defArgs s__law_union) (defBody s__law_union) (defScope s__law_union) .none kV48 dc48 pm48 an48 cd48 ct48
    | 49 => PySem.W.fnOf "law" "law" (defArgs s_law) (defBody s_law) (defScope s_law) .none kV49 dc49 pm49 an49 cd49 ct49
    | 1300 => PySem.W.fnOf "__init__" "UnknownName.__init__" (defArgs s_UnknownName___init__) (defBody s_UnknownName___init__) (defScope s_UnknownName___init__) .none kV1300 dc1300 pm1300 an1300 cd1300 ct1300
    | 1500 => PySem.W.fnOf "__init__" "LimitExceeded.__init__" (defArgs s_LimitExceeded___init__) (defBody s_LimitExceeded___init__) (defScope s_LimitExceeded___init__) .none kV1500 dc1500 pm1500 an1500 cd1500 ct1500
    | 1700 => PySem.W.fnOf "__init__" "InvalidStore.__init__" (defArgs s_InvalidStore___init__) (defBody s_InvalidStore___init__) (defScope s_InvalidStore___init__) .none kV1700 dc1700 pm1700 an1700 cd1700 ct1700
    | 4400 => PySem.W.fnOf "__init__" "Schema.__init__" (defArgs s_Schema___init__) (defBody s_Schema___init__) (defScope s_Schema___init__) .none kV4400 dc4400 pm4400 an4400 cd4400 ct4400
    | 4401 => PySem.W.fnOf "tables" "Schema.tables" (defArgs s_Schema_tables) (defBody s_Schema_tables) (defScope s_Schema_tables) .none kV4401 dc4401 pm4401 an4401 cd4401 ct4401
    | 4403 => PySem.W.fnOf "services" "Schema.services" (defArgs s_Schema_services) (defBody s_Schema_services) (defScope s_Schema_services) .none kV4403 dc4403 pm4403 an4403 cd4403 ct4403
    | 4404 => PySem.W.fnOf "__eq__" "Schema.__eq__" (defArgs s_Schema___eq__) (defBody s_Schema___eq__) (defScope s_Schema___eq__) .none kV4404 dc4404 pm4404 an4404 cd4404 ct4404
    | 4405 => PySem.W.fnOf "table_names" "Schema.table_names" (defArgs s_Schema_table_names) (defBody s_Schema_table_names) (defScope s_Schema_table_names) .none kV4405 dc4405 pm4405 an4405 cd4405 ct4405
    | 4408 => PySem.W.fnOf "width_of" "Schema.width_of" (defArgs s_Schema_width_of) (defBody s_Schema_width_of) (defScope s_Schema_width_of) .none kV4408 dc4408 pm4408 an4408 cd4408 ct4408
    | 4409 => PySem.W.fnOf "key_of" "Schema.key_of" (defArgs s_Schema_key_of) (defBody s_Schema_key_of) (defScope s_Schema_key_of) .none kV4409 dc4409 pm4409 an4409 cd4409 ct4409
    | 5000 => PySem.W.fnOf "__init__" "Store.__init__" (defArgs s_Store___init__) (defBody s_Store___init__) (defScope s_Store___init__) .none kV5000 dc5000 pm5000 an5000 cd5000 ct5000
    | 5001 => PySem.W.fnOf "__getitem__" "Store.__getitem__" (defArgs s_Store___getitem__) (defBody s_Store___getitem__) (defScope s_Store___getitem__) .none kV5001 dc5001 pm5001 an5001 cd5001 ct5001
    | 5003 => PySem.W.fnOf "__contains__" "Store.__contains__" (defArgs s_Store___contains__) (defBody s_Store___contains__) (defScope s_Store___contains__) .none kV5003 dc5003 pm5003 an5003 cd5003 ct5003
    | 5004 => PySem.W.fnOf "__len__" "Store.__len__" (defArgs s_Store___len__) (defBody s_Store___len__) (defScope s_Store___len__) .none kV5004 dc5004 pm5004 an5004 cd5004 ct5004
    | 5006 => PySem.W.fnOf "__or__" "Store.__or__" (defArgs s_Store___or__) (defBody s_Store___or__) (defScope s_Store___or__) .none kV5006 dc5006 pm5006 an5006 cd5006 ct5006
    | _ => PySem.W.fnOf "law" "law" (defArgs s_law) (defBody s_law) (defScope s_law) .none kV49 dc49 pm49 an49 cd49 ct49
  have T : Txt K mg aa dd := { F1300 := F1300, b1300 := b1300, F1700 := F1700, b1700 := b1700, F1500 := F1500, b1500 := b1500, F11 := F11, b11 := b11, g11 := PySem.W.mg_of X G a11, F12 := F12, b12 := b12, g12 := PySem.W.mg_of X G a12, F13 := F13, b13 := b13, g13 := PySem.W.mg_of X G a13, F14 := F14, b14 := b14, g14 := PySem.W.mg_of X G a14, F15 := F15, b15 := b15, g15 := PySem.W.mg_of X G a15, F16 := F16, b16 := b16, g16 := PySem.W.mg_of X G a16, F17 := F17, b17 := b17, g17 := PySem.W.mg_of X G a17, F23 := F23, b23 := b23, g23 := PySem.W.mg_of X G a23, F24 := F24, b24 := b24, g24 := PySem.W.mg_of X G a24, F25 := F25, b25 := b25, g25 := PySem.W.mg_of X G a25, F26 := F26, b26 := b26, g26 := PySem.W.mg_of X G a26, F27 := F27, b27 := b27, g27 := PySem.W.mg_of X G a27, F28 := F28, b28 := b28, g28 := PySem.W.mg_of X G a28, F29 := F29, b29 := b29, g29 := PySem.W.mg_of X G a29, F30 := F30, b30 := b30, g30 := PySem.W.mg_of X G a30, F31 := F31, b31 := b31, g31 := PySem.W.mg_of X G a31, F32 := F32, b32 := b32, g32 := PySem.W.mg_of X G a32, F33 := F33, b33 := b33, g33 := PySem.W.mg_of X G a33, F4400 := F4400, b4400 := b4400, F4401 := F4401, b4401 := b4401, F4403 := F4403, b4403 := b4403, F4404 := F4404, b4404 := b4404, F4405 := F4405, b4405 := b4405, F4408 := F4408, b4408 := b4408, F4409 := F4409, b4409 := b4409, F35 := F35, b35 := b35, g35 := PySem.W.mg_of X G a35, F38 := F38, b38 := b38, g38 := PySem.W.mg_of X G a38, F39 := F39, b39 := b39, g39 := PySem.W.mg_of X G a39, F5000 := F5000, b5000 := b5000, F5001 := F5001, b5001 := b5001, F5003 := F5003, b5003 := b5003, F5004 := F5004, b5004 := b5004, F5006 := F5006, b5006 := b5006, F42 := F42, b42 := b42, g42 := PySem.W.mg_of X G a42, F43 := F43, b43 := b43, g43 := PySem.W.mg_of X G a43, F44 := F44, b44 := b44, g44 := PySem.W.mg_of X G a44, F45 := F45, b45 := b45, g45 := PySem.W.mg_of X G a45, F46 := F46, b46 := b46, g46 := PySem.W.mg_of X G a46, F47 := F47, b47 := b47, g47 := PySem.W.mg_of X G a47, F48 := F48, b48 := b48, g48 := PySem.W.mg_of X G a48, F49 := F49, b49 := b49, g49 := PySem.W.mg_of X G a49, cg_2 := PySem.W.mg_of X G ac_2, x_2 := ⟨⟨_, _, _, _, _, _, _, _, _, _, _, _, _, _, _, xl_2, rfl⟩, xs_2, xe_2, xt_2, xk_2⟩, xf_2 := ⟨ya_2, yg_2, xe_2, yh_2⟩, xi_2 := ⟨ya_2, yg_2, xe_2, yh_2, za_2, zn_2, zt_2, zm_2⟩, cg_3 := PySem.W.mg_of X G ac_3, x_3 := ⟨⟨_, _, _, _, _, _, _, _, _, _, _, _, _, _, _, xl_3, rfl⟩, xs_3, xe_3, xt_3, xk_3⟩, xf_3 := ⟨ya_3, yg_3, xe_3, yh_3⟩, xi_3 := ⟨ya_3, yg_3, xe_3, yh_3, za_3, zn_3, zt_3, zm_3⟩, in_3 := fi_3, ti_3 := ty_3, no_3_name := na_3_name, cg_4 := PySem.W.mg_of X G ac_4, x_4 := ⟨⟨_, _, _, _, _, _, _, _, _, _, _, _, _, _, _, xl_4, rfl⟩, xs_4, xe_4, xt_4, xk_4⟩, xf_4 := ⟨ya_4, yg_4, xe_4, yh_4⟩, xi_4 := ⟨ya_4, yg_4, xe_4, yh_4, za_4, zn_4, zt_4, zm_4⟩, qx_4 := qx_4, kq_4 := xk_4, bq_4 := xe_4, tq_4 := xt_4, cg_7 := PySem.W.mg_of X G ac_7, x_7 := ⟨⟨_, _, _, _, _, _, _, _, _, _, _, _, _, _, _, xl_7, rfl⟩, xs_7, xe_7, xt_7, xk_7⟩, xf_7 := ⟨ya_7, yg_7, xe_7, yh_7⟩, xi_7 := ⟨ya_7, yg_7, xe_7, yh_7, za_7, zn_7, zt_7, zm_7⟩, in_7 := fi_7, ti_7 := ty_7, no_7_table := na_7_table, no_7_at := na_7_at, cg_5 := PySem.W.mg_of X G ac_5, x_5 := ⟨⟨_, _, _, _, _, _, _, _, _, _, _, _, _, _, _, xl_5, rfl⟩, xs_5, xe_5, xt_5, xk_5⟩, xf_5 := ⟨ya_5, yg_5, xe_5, yh_5⟩, xi_5 := ⟨ya_5, yg_5, xe_5, yh_5, za_5, zn_5, zt_5, zm_5⟩, in_5 := fi_5, ti_5 := ty_5, no_5_limit := na_5_limit, cg_34 := PySem.W.mg_of X G ac_34, cl_34 := ⟨pg_34, hd_34, po_34, sa_34⟩, M_34 := ⟨mk_34, fi_34, is_4400, kc_34⟩, no_34__tables := na_34__tables, no_34__keys := na_34__keys, no_34__services := na_34__services, cg_40 := PySem.W.mg_of X G ac_40, cl_40 := ⟨pg_40, hd_40, po_40, sa_40⟩, M_40 := ⟨mk_40, fi_40, is_5000, kc_40⟩, no_40_schema := na_40_schema, no_40__rows := na_40__rows, no_40__fitting := na_40__fitting, ic_34 := ⟨⟨pg_34, hd_34, po_34, sa_34⟩, oa_34, on_34, ot_34, om_34, kit_self _⟩, ne_34 := ne_34, om_34 := om_34, exm_7_7 := PySem.W.exm_ref xe_7 yh_7 xt_7 es_7_7, exm_5_5 := PySem.W.exm_ref xe_5 yh_5 xt_5 es_5_5, exf_5_7 := PySem.W.exm_ref xe_7 yh_7 xt_7 ef_5_7, p_4401 := ⟨pa_4401, pb_4401, pc_4401, ⟨_, pd_4401⟩⟩, p_4403 := ⟨pa_4403, pb_4403, pc_4403, ⟨_, pd_4403⟩⟩, m_4404 := ⟨ma_4404, mi_4404, k4404⟩, m_4405 := ⟨ma_4405, mi_4405, k4405⟩, m_4408 := ⟨ma_4408, mi_4408, k4408⟩, m_4409 := ⟨ma_4409, mi_4409, k4409⟩, m_5001 := ⟨ma_5001, mi_5001, k5001⟩, sp_5001 := ⟨ma_5001, mi_5001, (show PySem.W.fnIn K f5001 = true by unfold PySem.W.fnIn; rw [l5001])⟩, m_5003 := ⟨ma_5003, mi_5003, k5003⟩, sp_5003 := ⟨ma_5003, mi_5003, (show PySem.W.fnIn K f5003 = true by unfold PySem.W.fnIn; rw [l5003])⟩, m_5004 := ⟨ma_5004, mi_5004, k5004⟩, sp_5004 := ⟨ma_5004, mi_5004, (show PySem.W.fnIn K f5004 = true by unfold PySem.W.fnIn; rw [l5004])⟩, m_5006 := ⟨ma_5006, mi_5006, k5006⟩, sp_5006 := ⟨ma_5006, mi_5006, (show PySem.W.fnIn K f5006 = true by unfold PySem.W.fnIn; rw [l5006])⟩, sf_40 := sf_40, z_abs := PySem.W.mg_none_of X G z_abs, z_all := PySem.W.mg_none_of X G z_all, z_bool := PySem.W.mg_none_of X G z_bool, z_dict := PySem.W.mg_none_of X G z_dict, z_enumerate := PySem.W.mg_none_of X G z_enumerate, z_int := PySem.W.mg_none_of X G z_int, z_isinstance := PySem.W.mg_none_of X G z_isinstance, z_len := PySem.W.mg_none_of X G z_len, z_list := PySem.W.mg_none_of X G z_list, z_range := PySem.W.mg_none_of X G z_range, z_sorted := PySem.W.mg_none_of X G z_sorted, z_str := PySem.W.mg_none_of X G z_str, z_sum := PySem.W.mg_none_of X G z_sum, z_tuple := PySem.W.mg_none_of X G z_tuple, c_LONGEST_WORD := ⟨_, PySem.W.mg_of X G v_LONGEST_WORD⟩, c_GREATEST_VALUE := ⟨_, PySem.W.mg_of X G v_GREATEST_VALUE⟩, c_MOST_TABLES := ⟨_, PySem.W.mg_of X G v_MOST_TABLES⟩, c_MOST_WIDTH := ⟨_, PySem.W.mg_of X G v_MOST_WIDTH⟩, c_MOST_SERVICES := ⟨_, PySem.W.mg_of X G v_MOST_SERVICES⟩, c_MOST_CAP := ⟨_, PySem.W.mg_of X G v_MOST_CAP⟩, c_MOST_ROWS := ⟨_, PySem.W.mg_of X G v_MOST_ROWS⟩ }
  exact ⟨_, fun s v => .of_eq rfl, fun base _ _ => ok_law T⟩
end My
open PySem PySem.W PyProof.Rows
set_option maxRecDepth 100000 in
set_option maxHeartbeats 0 in
theorem PySem.Challenge.cw_cappedcalls_k36_unions_at_the_limit_holds : PySem.Challenge.rw_cappedcalls_k36_unions_at_the_limit.Holds := by
  w_on; o_law; k_head; (case hw => w_witness2)
  k_fill
  refine L2.walk_of (l := PySem.Challenge.rw_cappedcalls_k36_unions_at_the_limit) (n := 63) (k := 10) (x := "_law_script") (CX := fun _ => L2.CX0) (sp := fun w => My.spLaw _) rfl (by decide) rfl ⟨rfl, by decide, by decide⟩ (fun w h Y => PySem.W.kIn_of Y) ?F (fun _ _ a ns hl _ hS => ⟨a, ns, rfl, hS, hl, fun _ => rfl⟩) (fun _ _ _ _ _ h => h)
  case F =>
    intro w mg fa h KX G hmg
    refine' My.all_mk KX G hmg ?ac_2 ?ac_3 ?ac_4 ?ac_7 ?ac_5 ?ac_34 ?ac_40 ?fi_3 ?fi_7 ?fi_5 ?fi_34 ?fi_40 ?ma_4404 ?ma_4405 ?ma_4408 ?ma_4409 ?ma_5001 ?ma_5003 ?ma_5004 ?ma_5006 ?pa_4401 ?pa_4403 ?pd_4401 ?pd_4403 ?l1300 ?c1300 ?k1300 ?l1700 ?c1700 ?k1700 ?l1500 ?c1500 ?k1500 ?a11 ?l11 ?c11 ?k11 ?a12 ?l12 ?c12 ?k12 ?a13 ?l13 ?c13 ?k13 ?a14 ?l14 ?c14 ?k14 ?a15 ?l15 ?c15 ?k15 ?a16 ?l16 ?c16 ?k16 ?a17 ?l17 ?c17 ?k17 ?a23 ?l23 ?c23 ?k23 ?a24 ?l24 ?c24 ?k24 ?a25 ?l25 ?c25 ?k25 ?a26 ?l26 ?c26 ?k26 ?a27 ?l27 ?c27 ?k27 ?a28 ?l28 ?c28 ?k28 ?a29 ?l29 ?c29 ?k29 ?a30 ?l30 ?c30 ?k30 ?a31 ?l31 ?c31 ?k31 ?a32 ?l32 ?c32 ?k32 ?a33 ?l33 ?c33 ?k33 ?l4400 ?c4400 ?k4400 ?l4401 ?c4401 ?k4401 ?l4403 ?c4403 ?k4403 ?l4404 ?c4404 ?k4404 ?l4405 ?c4405 ?k4405 ?l4408 ?c4408 ?k4408 ?l4409 ?c4409 ?k4409 ?a35 ?l35 ?c35 ?k35 ?a38 ?l38 ?c38 ?k38 ?a39 ?l39 ?c39 ?k39 ?l5000 ?c5000 ?k5000 ?l5001 ?c5001 ?k5001 ?l5003 ?c5003 ?k5003 ?l5004 ?c5004 ?k5004 ?l5006 ?c5006 ?k5006 ?a42 ?l42 ?c42 ?k42 ?a43 ?l43 ?c43 ?k43 ?a44 ?l44 ?c44 ?k44 ?a45 ?l45 ?c45 ?k45 ?a46 ?l46 ?c46 ?k46 ?a47 ?l47 ?c47 ?k47 ?a48 ?l48 ?c48 ?k48 ?a49 ?l49 ?c49 ?k49 ?xl_2 ?xs_2 ?xe_2 ?xt_2 ?xk_2 ?ya_2 ?yg_2 ?yh_2 ?za_2 ?zn_2 ?zt_2 ?zm_2 ?xl_3 ?xs_3 ?xe_3 ?xt_3 ?xk_3 ?ya_3 ?yg_3 ?yh_3 ?za_3 ?zn_3 ?zt_3 ?zm_3 ?ty_3 ?na_3_name ?xl_4 ?xs_4 ?xe_4 ?xt_4 ?xk_4 ?ya_4 ?yg_4 ?yh_4 ?za_4 ?zn_4 ?zt_4 ?zm_4 ?qx_4 ?xl_7 ?xs_7 ?xe_7 ?xt_7 ?xk_7 ?ya_7 ?yg_7 ?yh_7 ?za_7 ?zn_7 ?zt_7 ?zm_7 ?ty_7 ?na_7_table ?na_7_at ?xl_5 ?xs_5 ?xe_5 ?xt_5 ?xk_5 ?ya_5 ?yg_5 ?yh_5 ?za_5 ?zn_5 ?zt_5 ?zm_5 ?ty_5 ?na_5_limit ?pg_34 ?hd_34 ?po_34 ?sa_34 ?mk_34 ?is_4400 ?kc_34 ?na_34__tables ?na_34__keys ?na_34__services ?pg_40 ?hd_40 ?po_40 ?sa_40 ?mk_40 ?is_5000 ?kc_40 ?na_40_schema ?na_40__rows ?na_40__fitting ?oa_34 ?on_34 ?ot_34 ?om_34 ?ne_34 ?es_7_7 ?es_5_5 ?ef_5_7 ?pb_4401 ?pc_4401 ?pb_4403 ?pc_4403 ?mi_4404 ?mi_4405 ?mi_4408 ?mi_4409 ?mi_5001 ?mi_5003 ?mi_5004 ?mi_5006 ?sf_40 ?z_abs ?z_all ?z_bool ?z_dict ?z_enumerate ?z_int ?z_isinstance ?z_len ?z_list ?z_range ?z_sorted ?z_str ?z_sum ?z_tuple ?v_LONGEST_WORD ?v_GREATEST_VALUE ?v_MOST_TABLES ?v_MOST_WIDTH ?v_MOST_SERVICES ?v_MOST_CAP ?v_MOST_ROWS
    (case ac_2 => k_is)
    (case ac_3 => k_is)
    (case ac_4 => k_is)
    (case ac_7 => k_is)
    (case ac_5 => k_is)
    (case ac_34 => k_is)
    (case ac_40 => k_is)
    (case fi_3 => k_is)
    (case fi_7 => k_is)
    (case fi_5 => k_is)
    (case fi_34 => k_is)
    (case fi_40 => k_is)
    (case ma_4404 => k_is)
    (case ma_4405 => k_is)
    (case ma_4408 => k_is)
    (case ma_4409 => k_is)
    (case ma_5001 => k_is)
    (case ma_5003 => k_is)
    (case ma_5004 => k_is)
    (case ma_5006 => k_is)
    (case pa_4401 => k_is)
    (case pa_4403 => k_is)
    (case pd_4401 => k_is)
    (case pd_4403 => k_is)
    (case l1300 => k_is)
    (case c1300 => k_is)
    (case k1300 => k_is)
    (case l1700 => k_is)
    (case c1700 => k_is)
    (case k1700 => k_is)
    (case l1500 => k_is)
    (case c1500 => k_is)
    (case k1500 => k_is)
    (case a11 => k_is)
    (case l11 => k_is)
    (case c11 => k_is)
    (case k11 => k_is)
    (case a12 => k_is)
    (case l12 => k_is)
    (case c12 => k_is)
    (case k12 => k_is)
    (case a13 => k_is)
    (case l13 => k_is)
    (case c13 => k_is)
    (case k13 => k_is)
    (case a14 => k_is)
    (case l14 => k_is)
    (case c14 => k_is)
    (case k14 => k_is)
    (case a15 => k_is)
    (case l15 => k_is)
    (case c15 => k_is)
    (case k15 => k_is)
    (case a16 => k_is)
    (case l16 => k_is)
    (case c16 => k_is)
    (case k16 => k_is)
    (case a17 => k_is)
    (case l17 => k_is)
    (case c17 => k_is)
    (case k17 => k_is)
    (case a23 => k_is)
    (case l23 => k_is)
    (case c23 => k_is)
    (case k23 => k_is)
    (case a24 => k_is)
    (case l24 => k_is)
    (case c24 => k_is)
    (case k24 => k_is)
    (case a25 => k_is)
    (case l25 => k_is)
    (case c25 => k_is)
    (case k25 => k_is)
    (case a26 => k_is)
    (case l26 => k_is)
    (case c26 => k_is)
    (case k26 => k_is)
    (case a27 => k_is)
    (case l27 => k_is)
    (case c27 => k_is)
    (case k27 => k_is)
    (case a28 => k_is)
    (case l28 => k_is)
    (case c28 => k_is)
    (case k28 => k_is)
    (case a29 => k_is)
    (case l29 => k_is)
    (case c29 => k_is)
    (case k29 => k_is)
    (case a30 => k_is)
    (case l30 => k_is)
    (case c30 => k_is)
    (case k30 => k_is)
    (case a31 => k_is)
    (case l31 => k_is)
    (case c31 => k_is)
    (case k31 => k_is)
    (case a32 => k_is)
    (case l32 => k_is)
    (case c32 => k_is)
    (case k32 => k_is)
    (case a33 => k_is)
    (case l33 => k_is)
    (case c33 => k_is)
    (case k33 => k_is)
    (case l4400 => k_is)
    (case c4400 => k_is)
    (case k4400 => k_is)
    (case l4401 => k_is)
    (case c4401 => k_is)
    (case k4401 => k_is)
    (case l4403 => k_is)
    (case c4403 => k_is)
    (case k4403 => k_is)
    (case l4404 => k_is)
    (case c4404 => k_is)
    (case k4404 => k_is)
    (case l4405 => k_is)
    (case c4405 => k_is)
    (case k4405 => k_is)
    (case l4408 => k_is)
    (case c4408 => k_is)
    (case k4408 => k_is)
    (case l4409 => k_is)
    (case c4409 => k_is)
    (case k4409 => k_is)
    (case a35 => k_is)
    (case l35 => k_is)
    (case c35 => k_is)
    (case k35 => k_is)
    (case a38 => k_is)
    (case l38 => k_is)
    (case c38 => k_is)
    (case k38 => k_is)
    (case a39 => k_is)
    (case l39 => k_is)
    (case c39 => k_is)
    (case k39 => k_is)
    (case l5000 => k_is)
    (case c5000 => k_is)
    (case k5000 => k_is)
    (case l5001 => k_is)
    (case c5001 => k_is)
    (case k5001 => k_is)
    (case l5003 => k_is)
    (case c5003 => k_is)
    (case k5003 => k_is)
    (case l5004 => k_is)
    (case c5004 => k_is)
    (case k5004 => k_is)
    (case l5006 => k_is)
    (case c5006 => k_is)
    (case k5006 => k_is)
    (case a42 => k_is)
    (case l42 => k_is)
    (case c42 => k_is)
    (case k42 => k_is)
    (case a43 => k_is)
    (case l43 => k_is)
    (case c43 => k_is)
    (case k43 => k_is)
    (case a44 => k_is)
    (case l44 => k_is)
    (case c44 => k_is)
    (case k44 => k_is)
    (case a45 => k_is)
    (case l45 => k_is)
    (case c45 => k_is)
    (case k45 => k_is)
    (case a46 => k_is)
    (case l46 => k_is)
    (case c46 => k_is)
    (case k46 => k_is)
    (case a47 => k_is)
    (case l47 => k_is)
    (case c47 => k_is)
    (case k47 => k_is)
    (case a48 => k_is)
    (case l48 => k_is)
    (case c48 => k_is)
    (case k48 => k_is)
    (case a49 => k_is)
    (case l49 => k_is)
    (case c49 => k_is)
    (case k49 => k_is)
    (case xl_2 => k_is)
    (case xs_2 => k_is)
    (case xe_2 => k_is)
    (case xt_2 => k_is)
    (case xk_2 => k_is)
    (case ya_2 => k_is)
    (case yg_2 => k_is)
    (case yh_2 => k_is)
    (case za_2 => k_is)
    (case zn_2 => k_is)
    (case zt_2 => k_is)
    (case zm_2 => k_is)
    (case xl_3 => k_is)
    (case xs_3 => k_is)
    (case xe_3 => k_is)
    (case xt_3 => k_is)
    (case xk_3 => k_is)
    (case ya_3 => k_is)
    (case yg_3 => k_is)
    (case yh_3 => k_is)
    (case za_3 => k_is)
    (case zn_3 => k_is)
    (case zt_3 => k_is)
    (case zm_3 => k_is)
    (case ty_3 => k_is)
    (case na_3_name => k_is)
    (case xl_4 => k_is)
    (case xs_4 => k_is)
    (case xe_4 => k_is)
    (case xt_4 => k_is)
    (case xk_4 => k_is)
    (case ya_4 => k_is)
    (case yg_4 => k_is)
    (case yh_4 => k_is)
    (case za_4 => k_is)
    (case zn_4 => k_is)
    (case zt_4 => k_is)
    (case zm_4 => k_is)
    (case qx_4 => k_exc)
    (case xl_7 => k_is)
    (case xs_7 => k_is)
    (case xe_7 => k_is)
    (case xt_7 => k_is)
    (case xk_7 => k_is)
    (case ya_7 => k_is)
    (case yg_7 => k_is)
    (case yh_7 => k_is)
    (case za_7 => k_is)
    (case zn_7 => k_is)
    (case zt_7 => k_is)
    (case zm_7 => k_is)
    (case ty_7 => k_is)
    (case na_7_table => k_is)
    (case na_7_at => k_is)
    (case xl_5 => k_is)
    (case xs_5 => k_is)
    (case xe_5 => k_is)
    (case xt_5 => k_is)
    (case xk_5 => k_is)
    (case ya_5 => k_is)
    (case yg_5 => k_is)
    (case yh_5 => k_is)
    (case za_5 => k_is)
    (case zn_5 => k_is)
    (case zt_5 => k_is)
    (case zm_5 => k_is)
    (case ty_5 => k_is)
    (case na_5_limit => k_is)
    (case pg_34 => k_is)
    (case hd_34 => k_is)
    (case po_34 => k_is)
    (case sa_34 => k_is)
    (case mk_34 => k_is)
    (case is_4400 => k_is)
    (case kc_34 => k_is)
    (case na_34__tables => k_is)
    (case na_34__keys => k_is)
    (case na_34__services => k_is)
    (case pg_40 => k_is)
    (case hd_40 => k_is)
    (case po_40 => k_is)
    (case sa_40 => k_is)
    (case mk_40 => k_is)
    (case is_5000 => k_is)
    (case kc_40 => k_is)
    (case na_40_schema => k_is)
    (case na_40__rows => k_is)
    (case na_40__fitting => k_is)
    (case oa_34 => k_is)
    (case on_34 => k_is)
    (case ot_34 => k_is)
    (case om_34 => k_is)
    (case ne_34 => k_is)
    (case es_7_7 => first | rfl | k_is)
    (case es_5_5 => first | rfl | k_is)
    (case ef_5_7 => k_is)
    (case pb_4401 => k_is)
    (case pc_4401 => k_is)
    (case pb_4403 => k_is)
    (case pc_4403 => k_is)
    (case mi_4404 => k_is)
    (case mi_4405 => k_is)
    (case mi_4408 => k_is)
    (case mi_4409 => k_is)
    (case mi_5001 => k_is)
    (case mi_5003 => k_is)
    (case mi_5004 => k_is)
    (case mi_5006 => k_is)
    (case sf_40 => k_is)
    (case z_abs => k_is)
    (case z_all => k_is)
    (case z_bool => k_is)
    (case z_dict => k_is)
    (case z_enumerate => k_is)
    (case z_int => k_is)
    (case z_isinstance => k_is)
    (case z_len => k_is)
    (case z_list => k_is)
    (case z_range => k_is)
    (case z_sorted => k_is)
    (case z_str => k_is)
    (case z_sum => k_is)
    (case z_tuple => k_is)
    (case v_LONGEST_WORD => k_is)
    (case v_GREATEST_VALUE => k_is)
    (case v_MOST_TABLES => k_is)
    (case v_MOST_WIDTH => k_is)
    (case v_MOST_SERVICES => k_is)
    (case v_MOST_CAP => k_is)
    (case v_MOST_ROWS => k_is)

