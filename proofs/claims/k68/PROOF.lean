import PyProof.Rows.All
import Wide.All
import OpenK.AllK
import Wide.FinOn
import HandS.ForMost
import HandS.IsInst
import HandS.Wide
import HandS.Evl
import HandS.DictComp
import HandS.Conv
import HandS.More
import HandS.Deep
import HandS.ForExc
import HandS.ExcInit
import HandS.ExcField
import HandS.ExcIs
import HandS.Property
import KE.KExcIs
import HandS.NoneIn
import HandS.DeepEq
import HandS.Finally
import HandS.CallSlots
import HandS.Walk
import HandS.DictTup
import HandS.Iter
import HandS.TupLen
import PyProof.DictMoreH
import HandS.Rev
import HandS.Codes
import KE.DataCmp
import KE.SortKeyHeap
import HandS.SortKw
import KE.KEqNest
import HandS.DictEq
import HandS.TupAny
import HandS.Conv
import KE.KeyNested
import KE.KDictKeyed
import KE.KCallOwn
import HandS.Defaults
import HandS.Star
import HandS.Text
import HandS.RaiseMore
import HandS.CallLocal
import HandS.Zip
import PySem.Challenge.RW_cappedcalls_k68_lines_of_programs
set_option Elab.async false
set_option linter.all false
set_option maxRecDepth 100000
set_option maxHeartbeats 4000000
namespace SK
open PySem PySem.SeqAt PySem.W PySem.Calls PyProof.Rows
/-! ### one tuple below another: only the first place that differs has to be asked -/
theorem tup_lt1 (l b : Addr) (us ws : Array Value) (n1 n2 : Nat) (d1 d2 : Option Addr) (t1 t2 : Array (Option Value)) (e r : Nat → Bool) :
    Meets (Builtin.«tuple.__lt__» ⟨[.ref l, .ref b], []⟩) (fun A R s =>
      (s.heap.get? l = some { cls := .type "tuple", dict := d1, data := .seq us n1, slots := t1 } ∧ s.heap.get? b = some { cls := .type "tuple", dict := d2, data := .seq ws n2, slots := t2 }) ∧
      (∀ j (x1 : j < us.size) (x2 : j < ws.size), EqAt A.in1 s us[j] ws[j] (e j)) ∧
      (∀ j (x1 : j < us.size) (x2 : j < ws.size), (∀ k, k < j → e k = true) → e j = false → RcLt A.in1 s us[j] ws[j] (r j)) ∧
      R (.ok (.ret (.bool (firstLt e r (decide (us.size < ws.size)) (List.range (min us.size ws.size)))))) s) := by
  refine .of_wp fun prog w A R s h => ?_
  obtain ⟨hp, g, d, tk, os⟩ := s
  obtain ⟨⟨hl, hb⟩, he, hr, h⟩ := h
  have sub := AutoSeq1.sub_tuple_tuple
  have len : (us.toList.zip ws.toList).length = min us.size ws.size := by simp
  wp_walk using wpAny_loadPart' hl, wpAny_loadPart' hb, wpAny_forIn_list _ (fun left b s' => (b.1 = none ∧ s' = ⟨hp, g, d, tk, os⟩) ∧ ∃ i, (left = (us.toList.zip ws.toList).drop i ∧ ∀ k, k < i → e k = true) ∧
    R (.ok (.ret (.bool (firstLt e r (decide (us.size < ws.size)) ((List.range (min us.size ws.size)).drop i))))) ⟨hp, g, d, tk, os⟩) _
  case turn =>
    rintro ⟨y, x⟩ left b s' ⟨⟨b0, rfl⟩, i, ⟨hz, hk⟩, hR⟩
    have lt : i < (us.toList.zip ws.toList).length := by
      refine Nat.lt_of_not_le fun q => ?_
      rw [List.drop_of_length_le q] at hz
      cases hz
    have lm : i < min us.size ws.size := by omega
    have x1 : i < us.size := by omega
    have x2 : i < ws.size := by omega
    rw [List.drop_eq_getElem_cons lt] at hz
    injection hz with z1 z2
    have ey : y = us[i] := by simpa using congrArg Prod.fst z1
    have ex : x = ws[i] := by simpa using congrArg Prod.snd z1
    subst ey ex
    rw [show (List.range (min us.size ws.size)).drop i = i :: (List.range (min us.size ws.size)).drop (i + 1) by simp [List.drop_eq_getElem_cons, lm]] at hR
    refine wpAny_bind (he i x1 x2 prog w _ _ ?_)
    cases q : e i with
    | true =>
      rw [firstLt_yes q] at hR
      wp_walk
      exact ⟨⟨rfl, rfl⟩, i + 1, ⟨z2, fun k hki => by
        rcases Nat.lt_succ_iff_lt_or_eq.mp hki with h | h
        · exact hk k h
        · rw [h]
          exact q⟩, hR⟩
    | false =>
      rw [firstLt_no q] at hR
      have hr' : ∀ (E Q : Value → Shared → Prop), Q (.bool (r i)) ⟨hp, g, d, tk, os⟩ → wpAny (model prog w) A.in1 (richCompare .Lt us[i] ws[i]) Q E ⟨hp, g, d, tk, os⟩ := fun E Q => hr i x1 x2 hk q prog w E Q
      generalize richCompare .Lt us[i] ws[i] = m at hr' ⊢
      wp_walk
      refine hr' _ _ ?_
      wp_walk
      exact ⟨_, rfl, hR⟩
  case fin =>
    rintro ⟨b1, b2⟩ s' ⟨⟨b0, rfl⟩, i, ⟨hz, _⟩, hR⟩
    simp only at b0
    subst b0
    have ge : min us.size ws.size ≤ i := by
      refine Nat.le_of_not_lt fun q => ?_
      rw [← len] at q
      rw [List.drop_eq_getElem_cons q] at hz
      cases hz
    rw [List.drop_of_length_le (by simpa using ge)] at hR
    wp_walk
    exact ⟨_, rfl, by simpa [Builtin.Tuple.tupleCompareSizes, firstLt] using hR⟩
  case h => exact ⟨⟨rfl, rfl⟩, 0, ⟨rfl, fun k hk => absurd hk (Nat.not_lt_zero k)⟩, by simpa using h⟩
section
variable {A : Around} {s : Shared}
theorem rc_tups {l b : Addr} {us ws : Array Value} {e r : Nat → Bool} (hl : s.heap.IsTuple l us) (hb : s.heap.IsTuple b ws) (hu : A.units < cLine)
    (he : ∀ j (x1 : j < us.size) (x2 : j < ws.size), EqAt A.in1 s us[j] ws[j] (e j)) (hr : ∀ j (x1 : j < us.size) (x2 : j < ws.size), (∀ k, k < j → e k = true) → e j = false → RcLt A.in1 s us[j] ws[j] (r j)) :
    RcLt A s (.ref l) (.ref b) (firstLt e r (decide (us.size < ws.size)) (List.range (min us.size ws.size))) := fun prog w E Q h => by
  obtain ⟨⟨c1, d1, x1, t1⟩, o1, h1, n1, k1⟩ := id hl
  obtain ⟨⟨c2, d2, x2, t2⟩, o2, h2, n2, k2⟩ := id hb
  simp only at h1 k1 h2 k2
  subst h1 k1 h2 k2
  exact richCompare_meets_room (op := .Lt) ⟨_, o1, rfl⟩ ⟨_, o2, rfl⟩ F.slot_tuple_lt F.entry_tuple_lt (F.args_tuple_lt_2 _ _) (tup_lt1 l b us ws n1 n2 d1 d2 t1 t2 e r) ⟨⟨o1, o2⟩, he, hr, (fun z => nomatch z), h⟩ hu
theorem call_tups {prog : Program} {w : World} {E Q : Value → Shared → Prop} {l b : Addr} {us ws : Array Value} {e r : Nat → Bool} (hl : s.heap.IsTuple l us) (hb : s.heap.IsTuple b ws)
    (he : ∀ j (x1 : j < us.size) (x2 : j < ws.size), EqAt A.in1 s us[j] ws[j] (e j)) (hr : ∀ j (x1 : j < us.size) (x2 : j < ws.size), (∀ k, k < j → e k = true) → e j = false → RcLt A.in1 s us[j] ws[j] (r j))
    (h : Q (.bool (firstLt e r (decide (us.size < ws.size)) (List.range (min us.size ws.size)))) s) : wpAny (model prog w) A (call (.builtin "tuple.__lt__") [.ref l, .ref b]) Q E s := by
  obtain ⟨⟨c1, d1, x1, t1⟩, o1, h1, n1, k1⟩ := id hl
  obtain ⟨⟨c2, d2, x2, t2⟩, o2, h2, n2, k2⟩ := id hb
  simp only at h1 k1 h2 k2
  subst h1 k1 h2 k2
  exact call_meets F.slot_tuple_lt ⟨_, o1, rfl⟩ F.entry_tuple_lt (F.args_tuple_lt_2 _ _) (tup_lt1 l b us ws n1 n2 d1 d2 t1 t2 e r) ⟨⟨o1, o2⟩, he, hr, h⟩
end
/-! ### data that can be asked for their order -/
mutual
def okLt : PyData → PyData → Bool
  | .bool _, .bool _ => true
  | .int _, .int _ => true
  | .str _, .str _ => true
  | .tuple xs, .tuple ys => okAll xs ys
  | _, _ => false
def okAll : List PyData → List PyData → Bool
  | x :: xs, y :: ys => if PyData.eqv x y = true then okAll xs ys else okLt x y
  | [], _ => true
  | _ :: _, [] => true
end
mutual
def ltD : PyData → PyData → Bool
  | .bool a, .bool b => decide (b2i a < b2i b)
  | .int a, .int b => decide (a < b)
  | .str x, .str y => decide (x.cps.toList < y.cps.toList)
  | .tuple xs, .tuple ys => ltAll xs ys
  | _, _ => false
def ltAll : List PyData → List PyData → Bool
  | x :: xs, y :: ys => if PyData.eqv x y = true then ltAll xs ys else ltD x y
  | [], _ :: _ => true
  | [], [] => false
  | _ :: _, [] => false
end
theorem okAll_at : ∀ (xs ys : List PyData) (j : Nat), okAll xs ys = true → (∀ k, k < j → pairEq xs ys k = true) → pairEq xs ys j = false → j < xs.length → j < ys.length → okLt (xs.getD j .none) (ys.getD j .none) = true
  | [], _, _, _, _, _, h, _ => absurd h (Nat.not_lt_zero _)
  | _ :: _, [], _, _, _, _, _, h => absurd h (Nat.not_lt_zero _)
  | x :: xs, y :: ys, 0, h, _, q, _, _ => by
    have q' : PyData.eqv x y = false := q
    simp only [okAll, q', Bool.false_eq_true, if_false] at h
    exact h
  | x :: xs, y :: ys, j + 1, h, hk, q, h1, h2 => by
    have q' : PyData.eqv x y = true := hk 0 (Nat.succ_pos j)
    simp only [okAll, q', if_true] at h
    exact okAll_at xs ys j h (fun k hkj => hk (k + 1) (Nat.succ_lt_succ hkj)) q (Nat.lt_of_succ_lt_succ h1) (Nat.lt_of_succ_lt_succ h2)
theorem first_all : ∀ (xs ys : List PyData), firstLt (pairEq xs ys) (fun j => ltD (xs.getD j .none) (ys.getD j .none)) (decide (xs.length < ys.length)) (List.range (min xs.length ys.length)) = ltAll xs ys
  | [], [] => rfl
  | [], _ :: _ => by simp [firstLt, ltAll]
  | _ :: _, [] => by simp [firstLt, ltAll]
  | x :: xs, y :: ys => by
    have ih := first_all xs ys
    rw [show min (x :: xs).length (y :: ys).length = min xs.length ys.length + 1 by rw [List.length_cons, List.length_cons]; omega,
      show decide ((x :: xs).length < (y :: ys).length) = decide (xs.length < ys.length) by rw [List.length_cons, List.length_cons]; exact decide_eq_decide.mpr (by omega), List.range_succ_eq_map]
    cases q : PyData.eqv x y with
    | true =>
      rw [firstLt_yes (show pairEq (x :: xs) (y :: ys) 0 = true from q), firstLt_map]
      simp only [ltAll, q, if_true]
      exact ih
    | false =>
      rw [firstLt_no (show pairEq (x :: xs) (y :: ys) 0 = false from q)]
      simp only [ltAll, q, Bool.false_eq_true, if_false]
      rfl
mutual
theorem rc_ok : ∀ (da db : PyData) (A : Around) (s : Shared) (a b : Value) (as bs : List Addr), Reads s.heap a da as → Reads s.heap b db bs → da.canLay0 = true → db.canLay0 = true → okLt da db = true → A.units + min da.depth db.depth < cLine → RcLt A s a b (ltD da db)
  | .bool x, .bool y, A, s, a, b, as, bs, ra, rb, _, _, _, _ => by
    cases ra
    cases rb
    exact fun prog w E Q hq => lt_bool hq
  | .int x, .int y, A, s, a, b, as, bs, ra, rb, _, _, _, _ => by
    cases ra
    cases rb
    exact fun prog w E Q hq => P.lt_int hq
  | .str x, .str y, A, s, a, b, as, bs, ra, rb, _, _, _, _ => by
    cases ra
    cases rb
    exact fun prog w E Q hq => P.lt_str hq
  | .tuple xs, .tuple ys, A, s, a, b, as, bs, ra, rb, la, lb, h, hu => by
    have hok : okAll xs ys = true := by simpa [okLt] using h
    have la' : PyData.canLayAll0 xs = true := by simpa [PyData.canLay0] using la
    have lb' : PyData.canLayAll0 ys = true := by simpa [PyData.canLay0] using lb
    cases ra with
    | @tuple l o us n _ as₁ h1 h2 h3 h4 =>
      cases rb with
      | @tuple l' o' ws n' _ bs₁ k1 k2 k3 k4 =>
        have n1 : us.size = xs.length := by simpa using ReadsAll.length _ _ _ h4
        have n2 : ws.size = ys.length := by simpa using ReadsAll.length _ _ _ k4
        show RcLt A s (.ref l) (.ref l') (ltAll xs ys)
        rw [← first_all xs ys, ← n1, ← n2]
        refine rc_tups ⟨_, h1, h2, _, h3⟩ ⟨_, k1, k2, _, k3⟩ (room_here hu) (fun j j1 j2 => ?_) fun j j1 j2 hk hj => ?_
        · have := eqAt_readsAll xs ys A.in1 s us.toList ws.toList _ _ h4 k4 la' lb' (room_in hu) j (by simpa using j1) (by simpa using j2)
          simpa using this
        · have := rc_okAll xs ys A.in1 s us.toList ws.toList _ _ h4 k4 la' lb' (room_in hu) j (by simpa using j1) (by simpa using j2) (okAll_at xs ys j hok hk hj (by omega) (by omega))
          simpa using this
  | .none, _, _, _, _, _, _, _, _, _, _, _, h, _ => absurd h (by simp [okLt])
  | .list _, _, _, _, _, _, _, _, _, _, _, _, h, _ => absurd h (by simp [okLt])
  | .dict _, _, _, _, _, _, _, _, _, _, _, _, h, _ => absurd h (by simp [okLt])
  | .bool _, .none, _, _, _, _, _, _, _, _, _, _, h, _ => absurd h (by simp [okLt])
  | .bool _, .int _, _, _, _, _, _, _, _, _, _, _, h, _ => absurd h (by simp [okLt])
  | .bool _, .str _, _, _, _, _, _, _, _, _, _, _, h, _ => absurd h (by simp [okLt])
  | .bool _, .list _, _, _, _, _, _, _, _, _, _, _, h, _ => absurd h (by simp [okLt])
  | .bool _, .tuple _, _, _, _, _, _, _, _, _, _, _, h, _ => absurd h (by simp [okLt])
  | .bool _, .dict _, _, _, _, _, _, _, _, _, _, _, h, _ => absurd h (by simp [okLt])
  | .int _, .none, _, _, _, _, _, _, _, _, _, _, h, _ => absurd h (by simp [okLt])
  | .int _, .bool _, _, _, _, _, _, _, _, _, _, _, h, _ => absurd h (by simp [okLt])
  | .int _, .str _, _, _, _, _, _, _, _, _, _, _, h, _ => absurd h (by simp [okLt])
  | .int _, .list _, _, _, _, _, _, _, _, _, _, _, h, _ => absurd h (by simp [okLt])
  | .int _, .tuple _, _, _, _, _, _, _, _, _, _, _, h, _ => absurd h (by simp [okLt])
  | .int _, .dict _, _, _, _, _, _, _, _, _, _, _, h, _ => absurd h (by simp [okLt])
  | .str _, .none, _, _, _, _, _, _, _, _, _, _, h, _ => absurd h (by simp [okLt])
  | .str _, .bool _, _, _, _, _, _, _, _, _, _, _, h, _ => absurd h (by simp [okLt])
  | .str _, .int _, _, _, _, _, _, _, _, _, _, _, h, _ => absurd h (by simp [okLt])
  | .str _, .list _, _, _, _, _, _, _, _, _, _, _, h, _ => absurd h (by simp [okLt])
  | .str _, .tuple _, _, _, _, _, _, _, _, _, _, _, h, _ => absurd h (by simp [okLt])
  | .str _, .dict _, _, _, _, _, _, _, _, _, _, _, h, _ => absurd h (by simp [okLt])
  | .tuple _, .none, _, _, _, _, _, _, _, _, _, _, h, _ => absurd h (by simp [okLt])
  | .tuple _, .bool _, _, _, _, _, _, _, _, _, _, _, h, _ => absurd h (by simp [okLt])
  | .tuple _, .int _, _, _, _, _, _, _, _, _, _, _, h, _ => absurd h (by simp [okLt])
  | .tuple _, .str _, _, _, _, _, _, _, _, _, _, _, h, _ => absurd h (by simp [okLt])
  | .tuple _, .list _, _, _, _, _, _, _, _, _, _, _, h, _ => absurd h (by simp [okLt])
  | .tuple _, .dict _, _, _, _, _, _, _, _, _, _, _, h, _ => absurd h (by simp [okLt])
theorem rc_okAll : ∀ (xs ys : List PyData) (A : Around) (s : Shared) (vs ws : List Value) (as bs : List Addr), ReadsAll s.heap vs xs as → ReadsAll s.heap ws ys bs → PyData.canLayAll0 xs = true → PyData.canLayAll0 ys = true → A.units + min (PyData.depthAll xs) (PyData.depthAll ys) < cLine →
    ∀ j (h1 : j < vs.length) (h2 : j < ws.length), okLt (xs.getD j .none) (ys.getD j .none) = true → RcLt A s vs[j] ws[j] (ltD (xs.getD j .none) (ys.getD j .none))
  | [], _, _, _, _, _, _, _, ra, _, _, _, _, j, h1, _, _ => by
    cases ra
    exact absurd h1 (Nat.not_lt_zero _)
  | _ :: _, [], _, _, _, _, _, _, _, rb, _, _, _, j, _, h2, _ => by
    cases rb
    exact absurd h2 (Nat.not_lt_zero _)
  | x :: xs, y :: ys, A, s, _, _, _, _, ra, rb, la, lb, hu, j, h1, h2, hok => by
    have la' : x.canLay0 = true ∧ PyData.canLayAll0 xs = true := by simpa [PyData.canLayAll0] using la
    have lb' : y.canLay0 = true ∧ PyData.canLayAll0 ys = true := by simpa [PyData.canLayAll0] using lb
    cases ra with
    | cons r rs =>
      cases rb with
      | cons r' rs' =>
        cases j with
        | zero => exact rc_ok x y A s _ _ _ _ r r' la'.1 lb'.1 hok (room_head hu)
        | succ j => exact rc_okAll xs ys A s _ _ _ _ rs rs' la'.2 lb'.2 (room_tail hu) j (Nat.lt_of_succ_lt_succ h1) (Nat.lt_of_succ_lt_succ h2) hok
end
end SK
namespace SK
open PySem PySem.SeqAt PySem.W PySem.Calls PyProof.Rows
mutual
theorem alike_self : ∀ d : PyData, d.canLay0 = true → alike d d = true
  | .none, _ => rfl
  | .bool _, _ => rfl
  | .int _, _ => rfl
  | .str _, _ => rfl
  | .list xs, h => by
    show alikeAll xs xs = true
    exact alike_selfs xs (by simpa [PyData.canLay0] using h)
  | .tuple xs, h => by
    show alikeAll xs xs = true
    exact alike_selfs xs (by simpa [PyData.canLay0] using h)
  | .dict _, h => absurd h (by simp [PyData.canLay0])
theorem alike_selfs : ∀ ds : List PyData, PyData.canLayAll0 ds = true → alikeAll ds ds = true
  | [], _ => rfl
  | d :: ds, h => by
    have h' : d.canLay0 = true ∧ PyData.canLayAll0 ds = true := by simpa [PyData.canLayAll0] using h
    show (alike d d && alikeAll ds ds) = true
    rw [alike_self d h'.1, alike_selfs ds h'.2]
    rfl
end
mutual
theorem reads_one {h : Heap} : ∀ (d d' : PyData) (v : Value) (as as' : List Addr), d.canLay0 = true → d'.canLay0 = true → Reads h v d as → Reads h v d' as' → d = d'
  | .none, _, _, _, _, _, _, r, r' => by
    cases r
    cases r'
    rfl
  | .bool _, _, _, _, _, _, _, r, r' => by
    cases r
    cases r'
    rfl
  | .int _, _, _, _, _, _, _, r, r' => by
    cases r
    cases r'
    rfl
  | .str _, _, _, _, _, _, _, r, r' => by
    cases r
    cases r'
    rfl
  | .list xs, d', _, _, _, l, l', r, r' => by
    cases r with
    | list h1 h2 h3 h4 =>
      cases r' with
      | list k1 k2 k3 k4 =>
        rw [h1] at k1
        cases k1
        rw [h3] at k3
        cases k3
        rw [reads_ones xs _ _ _ _ (by simpa [PyData.canLay0] using l) (by simpa [PyData.canLay0] using l') h4 k4]
      | tuple k1 k2 k3 k4 =>
        rw [h1] at k1
        cases k1
        rw [h2] at k2
        exact absurd k2 (by simp)
      | dict k1 => exact absurd l' (by simp [PyData.canLay0])
  | .tuple xs, d', _, _, _, l, l', r, r' => by
    cases r with
    | tuple h1 h2 h3 h4 =>
      cases r' with
      | tuple k1 k2 k3 k4 =>
        rw [h1] at k1
        cases k1
        rw [h3] at k3
        cases k3
        rw [reads_ones xs _ _ _ _ (by simpa [PyData.canLay0] using l) (by simpa [PyData.canLay0] using l') h4 k4]
      | list k1 k2 k3 k4 =>
        rw [h1] at k1
        cases k1
        rw [h2] at k2
        exact absurd k2 (by simp)
      | dict k1 => exact absurd l' (by simp [PyData.canLay0])
  | .dict _, _, _, _, _, l, _, _, _ => absurd l (by simp [PyData.canLay0])
theorem reads_ones {h : Heap} : ∀ (ds ds' : List PyData) (vs : List Value) (as as' : List Addr), PyData.canLayAll0 ds = true → PyData.canLayAll0 ds' = true → ReadsAll h vs ds as → ReadsAll h vs ds' as' → ds = ds'
  | [], _, _, _, _, _, _, r, r' => by
    cases r
    cases r'
    rfl
  | d :: ds, _, _, _, _, l, l', r, r' => by
    cases r with
    | cons h1 h2 =>
      cases r' with
      | cons k1 k2 =>
        have q : d.canLay0 = true ∧ PyData.canLayAll0 ds = true := by simpa [PyData.canLayAll0] using l
        have q' := l'
        simp only [PyData.canLayAll0, Bool.and_eq_true] at q'
        rw [reads_one d _ _ _ _ q.1 q'.1 h1 k1, reads_ones ds _ _ _ _ q.2 q'.2 h2 k2]
end
/-! ### keys that are tuples, ordered by tokens -/
abbrev Tok' := PyData → List (Int ⊕ List Nat)
noncomputable def kk (h : Heap) (ds : List PyData) (tok : Tok') : PyProof.Rows.KeyKind where
  toKeyOrd := listOrd itemOrd
  keyOf v := open Classical in if q : ∃ d, d ∈ ds ∧ ∃ as, Reads h v d as then some (tok q.choose) else none
  dflt := ([] : List (Int ⊕ List Nat))
/-- the keys are tuples that can be asked for their order, and the tokens tell it -/
structure Keys (ds : List PyData) (tok : Tok') : Prop where
  lay : ∀ d ∈ ds, d.canLay0 = true
  tup : ∀ d ∈ ds, ∃ xs, d = .tuple xs
  ok : ∀ d ∈ ds, ∀ d' ∈ ds, okLt d d' = true
  lt : ∀ d ∈ ds, ∀ d' ∈ ds, ltD d d' = PyProof.Rows.lexLt itemOrd (tok d) (tok d')
  ty : ∀ x r y t, PyData.tuple (x :: r) ∈ ds → PyData.tuple (y :: t) ∈ ds → dataType x = dataType y
theorem kk_some {h : Heap} {ds : List PyData} {tok : Tok'} (hl : ∀ d ∈ ds, d.canLay0 = true) {v : Value} {d : PyData} {as : List Addr} (hd : d ∈ ds) (r : Reads h v d as) : (kk h ds tok).keyOf v = some (tok d) := by
  have q : ∃ d, d ∈ ds ∧ ∃ as, Reads h v d as := ⟨d, hd, as, r⟩
  have e : (kk h ds tok).keyOf v = some (tok q.choose) := dif_pos q
  obtain ⟨h1, as', h2⟩ := q.choose_spec
  rw [e, reads_one _ _ _ _ _ (hl _ h1) (hl _ hd) h2 r]
theorem kk_inv {h : Heap} {ds : List PyData} {tok : Tok'} {v : Value} {k : List (Int ⊕ List Nat)} (e : (kk h ds tok).keyOf v = some k) : ∃ d as, d ∈ ds ∧ Reads h v d as ∧ k = tok d := by
  by_cases q : ∃ d, d ∈ ds ∧ ∃ as, Reads h v d as
  · have e' : (kk h ds tok).keyOf v = some (tok q.choose) := dif_pos q
    obtain ⟨h1, as', h2⟩ := q.choose_spec
    rw [e'] at e
    exact ⟨_, as', h1, h2, (Option.some.inj e).symm⟩
  · have e' : (kk h ds tok).keyOf v = none := dif_neg q
    rw [e'] at e
    cases e
section
variable {prog : Program} {w : World} {A : Around} {E : Value → Shared → Prop} {s : Shared}
theorem one_ok {f : Bool} {da db : PyData} {a b : Value} {as bs : List Addr} {Q : Bool → Shared → Prop} (ra : Reads s.heap a da as) (rb : Reads s.heap b db bs) (la : da.canLay0 = true) (lb : db.canLay0 = true) (h : okLt da db = true)
    (hu : A.units + min da.depth db.depth < cLine) (hq : Q (ltD da db) s) : wpAny (model prog w) A (oneLt' f a b) Q E s := by
  cases f with
  | false =>
    rw [oneLt'_eq]
    simp only [Bool.false_eq_true, if_false]
    exact wpAny_bind (rc_ok da db A s a b as bs ra rb la lb h hu prog w E _ (wpAny_truthy_bool hq))
  | true =>
    cases da <;> cases db <;> first | (simp [okLt] at h; done) | skip
    · cases ra
      cases rb
      exact oneLt_bool hq
    · cases ra
      cases rb
      exact oneLt_int hq
    · cases ra
      cases rb
      exact oneLt_str hq
    · rename_i xs ys
      have hok : okAll xs ys = true := by simpa [okLt] using h
      have la' : PyData.canLayAll0 xs = true := by simpa [PyData.canLay0] using la
      have lb' : PyData.canLayAll0 ys = true := by simpa [PyData.canLay0] using lb
      cases ra with
      | @tuple l o us n _ as₁ h1 h2 h3 h4 =>
        cases rb with
        | @tuple l' o' ws n' _ bs₁ k1 k2 k3 k4 =>
          have n1 : us.size = xs.length := by simpa using ReadsAll.length _ _ _ h4
          have n2 : ws.size = ys.length := by simpa using ReadsAll.length _ _ _ k4
          have hq : Q (ltAll xs ys) s := hq
          rw [← first_all xs ys, ← n1, ← n2] at hq
          rw [oneLt'_eq]
          simp only [if_true]
          refine wpAny_bind (wpAny_cRoomFor (room_here hu) ?_)
          refine wpAny_bind (wpAny_callSpecialIfBound?_slot (T := "tuple") ⟨_, h1, h2⟩ F.slot_tuple_lt (call_tups (e := pairEq xs ys) (r := fun j => ltD (xs.getD j .none) (ys.getD j .none)) ⟨_, h1, h2, _, h3⟩ ⟨_, k1, k2, _, k3⟩ (fun j j1 j2 => ?_) (fun j j1 j2 hk hj => ?_) ?_))
          · have := eqAt_readsAll xs ys A.in1 s us.toList ws.toList _ _ h4 k4 la' lb' (room_in hu) j (by simpa using j1) (by simpa using j2)
            simpa using this
          · have := rc_okAll xs ys A.in1 s us.toList ws.toList _ _ h4 k4 la' lb' (room_in hu) j (by simpa using j1) (by simpa using j2) (okAll_at xs ys j hok hk hj (by omega) (by omega))
            simpa using this
          · exact wpAny_truthy_bool hq
theorem katLex_ok {b fin : Bool} {Q : Bool → Shared → Prop} : ∀ (xs ys : List PyData) (i : Nat) (vs ws : List Value) (as bs : List Addr), ReadsAll s.heap vs xs as → ReadsAll s.heap ws ys bs → PyData.canLayAll0 xs = true → PyData.canLayAll0 ys = true → okAll xs ys = true →
    A.units + min (PyData.depthAll xs) (PyData.depthAll ys) < cLine → fin = decide (xs.length < ys.length) → Q (ltAll xs ys) s → KatLex prog w A b fin Q (vs.zip ws) i s
  | [], [], i, _, _, _, _, ra, rb, _, _, _, _, hf, hq => by
    cases ra
    cases rb
    have e : fin = false := by rw [hf]; rfl
    subst e
    exact kat_nil hq
  | [], y :: ys, i, _, _, _, _, ra, rb, _, _, _, _, hf, hq => by
    cases ra
    have e : fin = true := by rw [hf]; exact decide_eq_true (Nat.succ_pos _)
    subst e
    rw [List.zip_nil_left]
    exact kat_nil hq
  | x :: xs, [], i, _, _, _, _, ra, rb, _, _, _, _, hf, hq => by
    cases rb
    have e : fin = false := by rw [hf]; exact decide_eq_false (Nat.not_lt_zero _)
    subst e
    rw [List.zip_nil_right]
    exact kat_nil hq
  | x :: xs, y :: ys, i, _, _, _, _, ra, rb, la, lb, h, hu, hf, hq => by
    have la' : x.canLay0 = true ∧ PyData.canLayAll0 xs = true := by simpa [PyData.canLayAll0] using la
    have lb' : y.canLay0 = true ∧ PyData.canLayAll0 ys = true := by simpa [PyData.canLayAll0] using lb
    have hf' : fin = decide (xs.length < ys.length) := by
      rw [hf]
      simp only [List.length_cons, Nat.add_lt_add_iff_right]
    cases ra with
    | cons r rs =>
      cases rb with
      | cons r' rs' =>
        rw [List.zip_cons_cons]
        refine kat_cons (eqAt_reads x y A s _ _ _ _ r r' la'.1 lb'.1 (room_head hu) prog w _ _ ?_)
        cases hx : PyData.eqv x y with
        | true =>
          simp only [okAll, ltAll, hx, if_true] at h hq
          exact kat_yes (katLex_ok xs ys (i + 1) _ _ _ _ rs rs' la'.2 lb'.2 h (room_tail hu) hf' hq)
        | false =>
          simp only [okAll, ltAll, hx, Bool.false_eq_true, if_false] at h hq
          exact kat_no (one_ok r r' la'.1 lb'.1 h (room_head hu) hq)
end
end SK
namespace SK
open PySem PySem.SeqAt PySem.W PySem.Calls PyProof.Rows
section
variable {prog : Program} {w : World} {A : Around} {E : Value → Shared → Prop} {s : Shared}
/-- what firstOfTuple gives, key by key -/
theorem kFirsts : ∀ {vs : List Value} {ds : List PyData}, EachIs (fun v d => ∃ as, Reads s.heap v d as) vs ds → (∀ d ∈ ds, ∃ xs, d = PyData.tuple xs) → ∃ os : List (Option Value), os.length = vs.length ∧
    (∀ (M : Model) (A : Around) (E : Value → Shared → Prop) (Q : List (Option Value) → Shared → Prop), Q os s → wpAny M A (vs.mapM firstOfTuple') Q E s) ∧ ∀ (i : Nat) (o : Option Value), os[i]? = some o → ∃ xs, ds[i]? = some (PyData.tuple xs) ∧ (o = none ↔ xs = [])
  | _, _, .nil, _ => ⟨[], rfl, fun M A E Q h => by rw [List.mapM_nil]; exact wpAny_pure h, fun i o h => by cases h⟩
  | _, _, .cons (a := v) (b := d) (as := vs) (bs := ds) ⟨as, r⟩ t, ht => by
    obtain ⟨os, h1, h2, h3⟩ := kFirsts t fun d hd => ht d (List.mem_cons_of_mem _ hd)
    obtain ⟨xs, rfl⟩ := ht d List.mem_cons_self
    cases r with
    | @tuple a o us n _ _ ho hc hd hr =>
      refine ⟨us[0]? :: os, by rw [List.length_cons, List.length_cons, h1], fun M A E Q h => ?_, fun i o' e => ?_⟩
      · rw [List.mapM_cons]
        refine wpAny_bind ?_
        rw [kas_first_eq]
        refine wpAny_bind (Looks.here (show Looks M s.heap (typeOf (.ref a)) o.cls from (Looks.ld ho).andThen .now) ?_)
        rw [hc, if_neg (by first | decide | simp)]
        refine wpAny_bind (listItems_at ho hd (wpAny_pure ?_))
        exact wpAny_bind (h2 M A E (fun bs s' => wpAny M A (pure (us[0]? :: bs)) Q E s') (wpAny_pure h))
      · cases i with
        | zero =>
          have e' : o' = us[0]? := (Option.some.inj e).symm
          refine ⟨xs, rfl, ?_⟩
          rw [e', ← Array.getElem?_toList]
          cases q : us.toList with
          | nil =>
            rw [q] at hr
            cases hr
            simp
          | cons f fr =>
            rw [q] at hr
            cases hr
            simp
        | succ i => exact h3 i o' e
theorem kFulls : ∀ {vs : List Value} {ds : List PyData}, EachIs (fun v d => ∃ as, Reads s.heap v d as) vs ds → (∀ d ∈ ds, ∃ x r, d = .tuple (x :: r)) → ∃ fs, KatTups s.heap vs fs ∧ fs.length = vs.length ∧ ∀ f ∈ fs, ∃ x r as, PyData.tuple (x :: r) ∈ ds ∧ Reads s.heap f x as :=
  fun e h => each_katTups e h
theorem kKinds {vs : List Value} {ds : List PyData} (e : EachIs (fun v d => ∃ as, Reads s.heap v d as) vs ds) (ht : ∀ d ∈ ds, ∃ xs, d = PyData.tuple xs) (hn : PyData.tuple [] ∈ ds) (h2 : 2 ≤ vs.length) :
    ∃ kd : SortKind, (kd = general' ∨ kd = oneType') ∧ ∀ (E : Value → Shared → Prop) (Q : SortKind → Shared → Prop), Q kd s → wpAny (model prog w) A (keyKind' vs.toArray) Q E s := by
  obtain ⟨os, l1, l2, l3⟩ := kFirsts e ht
  have no : none ∈ os := by
    obtain ⟨i, hi⟩ := List.mem_iff_getElem?.mp hn
    have li : i < os.length := by
      have := (List.getElem?_eq_some_iff.mp hi).1
      rw [l1, e.length]
      exact this
    obtain ⟨xs, e1, e2⟩ := l3 i os[i] (List.getElem?_eq_getElem li)
    rw [hi] at e1
    cases e1
    rw [← e2.mpr rfl]
    exact List.getElem_mem li
  have nall : (os.toArray.all fun x => x.isSome) = false := by
    rw [List.all_toArray]
    exact List.all_eq_false.mpr ⟨none, no, by simp⟩
  refine ⟨if (os.toArray[0]?.bind id).isSome = true then general' else oneType', by split <;> simp, fun E Q hq => ?_⟩
  rw [kat_kind_eq, List.mapM_toArray, map_eq_pure_bind]
  refine wpAny_bind (wpAny_bind (l2 _ _ _ _ (wpAny_pure ?_)))
  rw [if_neg (by rw [nall]; decide)]
  by_cases hg : (os.toArray[0]?.bind id).isSome = true
  · rw [if_pos hg] at hq ⊢
    exact wpAny_pure hq
  · rw [if_neg hg] at hq ⊢
    rw [oneTypeOnly'_eq, List.mapM_toArray, map_eq_pure_bind]
    have hT : ∀ v ∈ vs, Looks (model prog w) s.heap (typeOf v) (Value.type "tuple") := fun v hv => by
      obtain ⟨d, hd, as, r⟩ := e.left v hv
      obtain ⟨xs, rfl⟩ := ht d hd
      exact looks_reads r
    refine wpAny_bind (wpAny_bind (wpAny_bind (kas_mapM (r := Value.type "tuple") _ (fun v hv Q' hq => (hT v hv).here hq) (wpAny_pure ?_))))
    obtain ⟨v₁, r, rfl⟩ : ∃ v₁ r, vs = v₁ :: r := by
      cases vs with
      | nil => exact absurd h2 (by simp)
      | cons a b => exact ⟨a, b, rfl⟩
    have hall : ((List.map (fun _ => Value.type "tuple") (v₁ :: r)).toArray.all fun x => x == Value.type "tuple") = true := by
      simp only [List.all_toArray, List.all_map, List.all_eq_true]
      intro _ _
      rfl
    rw [show (List.map (fun _ => Value.type "tuple") (v₁ :: r)).toArray[0]? = some (Value.type "tuple") by simp]
    simp only [hall, if_true]
    exact wpAny_pure (wpAny_pure hq)
/-- such keys can be sorted -/
theorem sorts_at {vs : List Value} {ds : List PyData} {tok : Tok'} (K : Keys ds tok) (e : EachIs (fun v d => ∃ as, Reads s.heap v d as) vs ds) (hu : ∀ d, d ∈ ds → A.units + d.depth < cLine) : SortsAt prog w A s (kk s.heap ds tok) vs := by
  have room : ∀ {d d' : PyData}, d ∈ ds → A.units + min d.depth d'.depth < cLine := fun {d d'} hd => Nat.lt_of_le_of_lt (Nat.add_le_add_left (Nat.min_le_left _ _) _) (hu d hd)
  refine ⟨fun v hv => ?_, ?_⟩
  · obtain ⟨d, hd, as, r⟩ := e.left v hv
    exact ⟨_, kk_some K.lay hd r⟩
  have asked : ∀ (kd : SortKind), (∀ {da db : PyData} {a b : Value} {as bs : List Addr} {E : Value → Shared → Prop} {Q : Bool → Shared → Prop}, da ∈ ds → db ∈ ds → Reads s.heap a da as → Reads s.heap b db bs → Q (ltD da db) s → wpAny (model prog w) A (keyLt' kd a b) Q E s) → H.LtAt prog w A s (kk s.heap ds tok) kd := fun kd h E x y a b Q ha hb hq => by
    obtain ⟨d, as, hd, ra, rfl⟩ := kk_inv ha
    obtain ⟨d', bs, hd', rb, rfl⟩ := kk_inv hb
    refine h hd hd' ra rb ?_
    rw [K.lt d hd d' hd']
    exact hq
  by_cases hn : PyData.tuple [] ∈ ds
  · by_cases h2 : 2 ≤ vs.length
    · obtain ⟨kd, hk, hr⟩ := kKinds (prog := prog) (w := w) (A := A) e K.tup hn h2
      refine ⟨kd, asked kd fun {da db a b as bs E Q} hd hd' ra rb hq => ?_, fun _ E Q hq => hr E Q hq⟩
      rcases hk with rfl | rfl
      · exact one_ok (f := false) ra rb (K.lay _ hd) (K.lay _ hd') (K.ok _ hd _ hd') (room hd) hq
      · exact one_ok (f := true) ra rb (K.lay _ hd) (K.lay _ hd') (K.ok _ hd _ hd') (room hd) hq
    · exact ⟨general', asked _ fun {da db a b as bs E Q} hd hd' ra rb hq => one_ok (f := false) ra rb (K.lay _ hd) (K.lay _ hd') (K.ok _ hd _ hd') (room hd) hq, fun h => absurd h h2⟩
  · have full : ∀ d ∈ ds, ∃ x r, d = .tuple (x :: r) := fun d hd => by
      obtain ⟨xs, rfl⟩ := K.tup d hd
      cases xs with
      | nil => exact absurd hd hn
      | cons x r => exact ⟨x, r, rfl⟩
    obtain ⟨fs, t1, t2, t3⟩ := kFulls e full
    by_cases h2 : 2 ≤ vs.length
    · obtain ⟨f0, fr, ef⟩ : ∃ f0 fr, fs = f0 :: fr := by
        cases fs with
        | nil =>
          rw [List.length_nil] at t2
          omega
        | cons a b => exact ⟨a, b, rfl⟩
      obtain ⟨x0, r0, as0, m0, q0⟩ := t3 f0 (by rw [ef]; exact List.mem_cons_self)
      refine ⟨tuples' (dataType x0 != Value.type "tuple"), asked _ fun {da db a b as bs E Q} hd hd' ra rb hq => ?_, fun _ E Q hq => ?_⟩
      · have hok := K.ok _ hd _ hd'
        have la := K.lay _ hd
        have lb := K.lay _ hd'
        have hr := room (d' := db) hd
        obtain ⟨xs, rfl⟩ := K.tup _ hd
        obtain ⟨ys, rfl⟩ := K.tup _ hd'
        cases ra with
        | @tuple l o us n _ _ h1 h2 h3 h4 =>
          cases rb with
          | @tuple l' o' ws n' _ _ k1 k2 k3 k4 =>
            have n1 : us.size = xs.length := by simpa using ReadsAll.length _ _ _ h4
            have n2 : ws.size = ys.length := by simpa using ReadsAll.length _ _ _ k4
            exact kat_lt h1 h3 k1 k3 (katLex_ok xs ys 0 _ _ _ _ h4 k4 (by simpa [PyData.canLay0] using la) (by simpa [PyData.canLay0] using lb) (by simpa [okLt] using hok) (by have q := room_in hr; omega) (by rw [n1, n2]) hq)
      · refine kat_kind (T := dataType x0) t1 (by omega) (fun f hf => ?_) (beq_self_eq_true _) hq
        obtain ⟨x, r, as, m1, m2⟩ := t3 f hf
        rw [K.ty x0 r0 x r m0 m1]
        exact looks_reads m2
    · exact ⟨general', asked _ fun {da db a b as bs E Q} hd hd' ra rb hq => one_ok (f := false) ra rb (K.lay _ hd) (K.lay _ hd') (K.ok _ hd _ hd') (room hd) hq, fun h => absurd h h2⟩
end
end SK
namespace SK
open PySem PySem.SeqAt PySem.W PySem.Calls PyProof.Rows
/-- keys that can be sorted, the tokens tell their order -/
structure KeysG (ds : List PyData) (tok : Tok') : Prop where
  lay : ∀ d ∈ ds, d.canLay0 = true
  sorts : ∀ {prog : Program} {w : World} {A : Around} {s : Shared} {vs : List Value}, EachIs (fun v d => ∃ as, Reads s.heap v d as) vs ds → (∀ d, d ∈ ds → A.units + d.depth < cLine) → SortsAt prog w A s (kk s.heap ds tok) vs
theorem Keys.g {ds : List PyData} {tok : Tok'} (K : Keys ds tok) : KeysG ds tok := ⟨K.lay, fun e hu => sorts_at K e hu⟩
/-- keys that are alike, place by place -/
theorem keysG_alike {ds : List PyData} (lay : ∀ d ∈ ds, d.canLay0 = true) (hal : AllAlike ds) (hk : Sortable ds) : KeysG ds keyToks := ⟨lay, fun e hu => SortsAt.data e hal hk hu⟩
end SK
namespace SK
open PySem PySem.SeqAt PySem.W PySem.Calls PyProof.Rows L2
/-! ### sorted(xs, key=f), f a def of the text -/
theorem dp_same {K : PySem.W.Frag} {H H' : Hp} (s : ∀ b o, H b = some o → H' b = some o) : ∀ (d : PyData) (v : V), Dp K H v d → Dp K H' v d
  | .none, _, h => by
    cases h
    exact .non
  | .bool _, _, h => by
    cases h
    exact .bl _
  | .int _, _, h => by
    cases h
    exact .int _
  | .str _, _, h => by
    cases h
    exact .str _
  | .list ds, _, h => by
    cases h with
    | lst h1 h2 =>
      refine .lst ?_ (dp_sames s ds _ h2)
      rcases h1 with (h | ⟨o, h⟩) | h
      · exact .inl (.inl (s _ _ h))
      · exact .inl (.inr ⟨o, s _ _ h⟩)
      · exact .inr h
  | .tuple ds, _, h => by
    cases h with
    | tup h1 h2 =>
      refine .tup ?_ (dp_sames s ds _ h2)
      rcases h1 with (h | ⟨o, h⟩) | h
      · exact .inl (.inl (s _ _ h))
      · exact .inl (.inr ⟨o, s _ _ h⟩)
      · exact .inr h
  | .dict _, _, h => by cases h
where dp_sames {K : PySem.W.Frag} {H H' : Hp} (s : ∀ b o, H b = some o → H' b = some o) : ∀ (ds : List PyData) (vs : List V), DpAll K H vs ds → DpAll K H' vs ds
  | [], _, h => by
    cases h
    exact .nil
  | d :: ds, _, h => by
    cases h with
    | cons h1 h2 => exact .cons (dp_same s d _ h1) (dp_sames s ds _ h2)
/-- the items in the order of their keys -/
def byKey (tok : Tok') (xs : List V) (kz : List PyData) : List V := ((xs.zip kz).mergeSort (sortLe (listOrd itemOrd) false fun b => tok b.2)).map (·.1)
theorem each_zip : ∀ {xs : List V} {vs : List Value} {kz : List PyData}, Vals xs vs → kz.length = xs.length → EachIs (fun v (b : V × PyData) => RelV b.1 v) vs (xs.zip kz)
  | [], _, kz, .nil, _ => by
    rw [List.zip_nil_left]
    exact .nil
  | x :: xs, _, [], _, h => absurd h (by simp)
  | x :: xs, _, k :: kz, .cons r t, h => by
    rw [List.zip_cons_cons]
    exact .cons r (each_zip t (Nat.succ.inj h))
theorem each_snd {R : Value → PyData → Prop} : ∀ {xs : List V} {ks : List Value} {kz : List PyData}, EachIs R ks kz → kz.length = xs.length → EachIs (fun v (b : V × PyData) => R v b.2) ks (xs.zip kz)
  | [], _, [], .nil, _ => .nil
  | _ :: _, _, [], .nil, h => absurd h (by simp)
  | [], _, _ :: _, _, h => absurd h (by simp)
  | x :: xs, _, k :: kz, .cons r t, h => by
    rw [List.zip_cons_cons]
    exact .cons r (each_snd t (Nat.succ.inj h))
theorem vals_each : ∀ {bs : List (V × PyData)} {vs : List Value}, EachIs (fun v (b : V × PyData) => RelV b.1 v) vs bs → Vals (bs.map (·.1)) vs
  | _, _, .nil => .nil
  | _, _, .cons r t => .cons r (vals_each t)
section
variable {X : Cx} {pins : List (Addr × Obj)} {σ : L2.St} {H : Hp} {s : Shared}
theorem each_reads (I : Inv X pins σ H s) : ∀ {kvs : List V} {ks : List Value} {kz : List PyData}, Vals kvs ks → DpAll X.K H kvs kz → EachIs (fun v k => ∃ as, Reads s.heap v k as) ks kz
  | _, _, _, .nil, .nil => .nil
  | _, _, _, .cons r t, .cons h1 h2 => .cons (Dp.reads I _ _ _ h1 r) (each_reads I t h2)
theorem dp_snoc {K : PySem.W.Frag} {v : V} {d : PyData} (h : Dp K H v d) : ∀ {vs : List V} {ds : List PyData}, DpAll K H vs ds → DpAll K H (vs ++ [v]) (ds ++ [d])
  | _, _, .nil => .cons h .nil
  | _, _, .cons a b => .cons a (dp_snoc h b)
theorem dpAll_len {K : PySem.W.Frag} {H : Hp} : ∀ {vs : List V} {ds : List PyData}, DpAll K H vs ds → vs.length = ds.length
  | _, _, .nil => rfl
  | _, _, .cons _ t => congrArg (· + 1) (dpAll_len t)
theorem v_rest {a kS f : Addr} {fd : FuncData} {n : Nat} {sp : Sp} {ps : List Str} {e1 : Nat} {P : PySem.Fin → Shared → Prop} {E : Value → Shared → Prop} {xs : List V} {vs : List Value} {kz : List PyData} {tok : Tok'} {ks0 : Unit}
    (F : FnOk X.prog X.w X.K X.mg X.base CX0 n f fd ps sp) (hr : Room n X.A.in1.in1) (hb : Binds X.K fd ps []) (h1 : ps.length = 1) (K : KeysG kz tok) (I : Inv X pins σ H s) (fa : FpOk X pins H a) (fk : FpOk X pins H kS)
    (nk : s.heap.get? kS = some (seqObj "list" #[] 0)) (na : s.heap.get? a = some (seqObj "list" #[] e1)) (ne : kS ≠ a) (rv : Vals xs vs) (len : kz.length = xs.length) (big : xs.length ≤ sizeLine) (hu : ∀ d, d ∈ kz → X.A.in1.in1.units + d.depth < cLine)
    (call : ∀ (i : Nat) (x : V) (k : PyData), xs[i]? = some x → kz[i]? = some k → ∀ H1, Same H H1 → sp [x] H1 (fun v H2 => Dp X.K H2 v k ∧ Same H1 H2) fun _ _ _ => False)
    (h : ∀ (Hn : Hp) (sn : Shared), Inv X pins σ (upd Hn a (.lst (byKey tok xs kz))) sn → Same H Hn → P (.done (.ret .none)) sn) :
    wpAny (model X.prog X.w) X.A.in1.in1 (ksk_rest a (.ref f) false vs.toArray e1 (.ref kS)) P E s := by
  have lv := rv.length
  let St : Nat → Shared → Prop := fun i s' => ∃ Hi kvs ks c, Inv X pins σ Hi s' ∧ Same H Hi ∧ Hi a = none ∧ Hi kS = none ∧ s'.heap.get? kS = some (seqObj "list" ks c) ∧ s'.heap.get? a = some (seqObj "list" #[] e1) ∧ Vals kvs ks.toList ∧ DpAll X.K Hi kvs (kz.take i)
  have nfs : ∀ b, FpOk X pins H b → b ∉ frs X.stack := fun b fb hb => by
    rcases List.mem_cons.mp (I.stkSub b hb) with z | z
    · exact fb.2.1 z
    · exact fb.2.2.1 z
  unfold ksk_rest
  refine wpAny_bind (wpAny_rule ?_)
  first
    | rw [List.forIn_toArray]
    | (rw [← Array.forIn_toList]; simp only [List.toList_toArray])
    | rw [← Array.forIn_toList]
  refine wpAny_bind (ksk_fold St vs 0 s ⟨H, [], #[], 0, I, fun _ _ e => e, fa.1, fk.1, nk, na, .nil, by rw [List.take_zero]; exact .nil⟩ ?each ?after)
  case each =>
    rintro j v s' hv ⟨Hi, kvs, ks, c, Ii, sm, ha, hk, nk', na', rk, rd⟩
    simp only [Nat.zero_add] at rd ⊢
    have lj : j < xs.length := by
      have := (List.getElem?_eq_some_iff.mp hv).1
      omega
    obtain ⟨u, hu1, rx⟩ := rv.get (i := j) (List.getElem?_eq_getElem lj)
    obtain rfl : u = v := Option.some.inj (hu1.symm.trans hv)
    have hkj : kz[j]? = some kz[j] := List.getElem?_eq_getElem (by omega)
    have run : wpAny (model X.prog X.w) X.A.in1.in1 (PySem.call (.ref f) [u]) (fun r s2 => CE X.stack X.prog X.w Hi s' (fun v H2 => Dp X.K H2 v kz[j] ∧ Same Hi H2) r s2) (fun _ _ => False) s' := by
      refine wpAny_call (codeAny_mono (F.run X.A.in1.in1 X.stack s' Hi ⟨[u], []⟩ ([u] ++ []) [xs[j]] _ _ hr Ii.env0.in1.in1 (hb s' [u] Ii.kIn h1.symm) (.cons rx .nil) (call j _ _ (List.getElem?_eq_getElem lj) hkj Hi sm)) fun r s2 hq => ?_)
      cases r with
      | error e => exact False.elim hq
      | ok fl =>
        cases fl with
        | ret u => exact hq
        | next => exact False.elim hq
        | brk => exact False.elim hq
        | cont => exact False.elim hq
    refine wpAny_bind (wpAny_attempt (wpAny_mono run (fun r s2 he => ?_) fun _ _ z => z.elim))
    obtain ⟨v', H2, os, bare, un, hok, rr, dp, sm2⟩ := he
    have I2 : Inv X pins σ H2 s2 := Ii.call' (ch := []) os un hok bare (by simp)
    have nk2 := un.keep kS _ nk' hk (nfs kS fk) (by simp)
    have na2 := un.keep a _ na' ha (nfs a fa) (by simp)
    have hk2 := un.free kS _ nk' hk (by simp)
    have ha2 := un.free a _ na' ha (by simp)
    try dsimp only
    have sz : ks.size ≤ sizeLine := by
      have q1 : ks.size = kvs.length := by
        rw [← Array.length_toList]
        exact (Vals.length rk).symm
      have q2 : kvs.length = (kz.take j).length := dpAll_len rd
      rw [List.length_take] at q2
      omega
    have szj : ks.size < sizeLine + 1 := Nat.lt_succ_of_le sz
    have same := Heap.SameBut.update s2.heap kS (Obj.mapSeq (·.push r))
    obtain ⟨c2, hc2⟩ : ∃ c2, (s2.heap.update kS (Obj.mapSeq (·.push r))).get? kS = some (seqObj "list" (ks.push r) c2) := ⟨_, get?_update_seq nk2 (·.push r)⟩
    refine wpAny_bind (listUpdate_at nk2 rfl ?_ sz (Nat.le_trans (Nat.le_of_eq (Array.size_push ..)) (Nat.succ_le_succ sz)))
    refine wpAny_pure ⟨rfl, H2, kvs ++ [v'], ks.push r, c2, I2.turned (t' := s2.toks) (fun b o hb e => (same.2 b hb).trans e) hk2 fk.2.1 fk.2.2.2.1 fk.2.2.2.2.1 fk.2.2.2.2.2, sm.trans sm2, ha2, hk2, hc2, (same.2 a ne.symm).trans na2, ?_, ?_⟩
    · rw [show (ks.push r).toList = ks.toList ++ [r] by simp]
      exact Vals.append rk (.cons rr .nil)
    · rw [show kz.take (j + 1) = kz.take j ++ [kz[j]] by rw [List.take_add_one, hkj]; simp]
      exact dp_snoc dp (dp_same.dp_sames sm2 _ _ rd)
  case after =>
    rintro s' ⟨Hn, kvs, ks, c, In, sm, ha, hk, nk', na', rk, rd⟩
    rw [show kz.take (0 + vs.length) = kz from List.take_of_length_le (by omega)] at rd
    have all := each_reads In rk rd
    have sz : ks.size = vs.length := by
      have q := all.length
      rw [Array.length_toList] at q
      omega
    try dsimp only
    refine wpAny_bind (listItems_at nk' rfl ?_)
    refine keyH_end (κ := kk s'.heap kz tok) (h₁ := hideAll s'.heap [kS]) (fun b o _ q => of_hideAll _ q) (hideAll_none _ (List.mem_singleton.mpr rfl)) nk' na' ne (K.sorts all hu) sz (by omega) fun g tk c3 keep hg => ?_
    have out : EachIs (fun v (b : V × PyData) => RelV b.1 v) (sortVals (kk s'.heap kz tok) false ks.toList vs) ((xs.zip kz).mergeSort (sortLe (listOrd itemOrd) false fun b => tok b.2)) :=
      sortVals_each (κ := kk s'.heap kz tok) (fun b : V × PyData => tok b.2) (each_zip rv len) (each_snd (R := fun v d => (kk s'.heap kz tok).keyOf v = some (tok d)) ((each_mem all).mono fun v d q => by
        obtain ⟨⟨as, r⟩, hd⟩ := q
        exact kk_some K.lay hd r) len)
    have ol : (byKey tok xs kz).length ≤ sizeLine := by
      unfold byKey
      rw [List.length_map, List.length_mergeSort, List.length_zip]
      omega
    have kp : ∀ b o, b ≠ a → b ≠ kS → s'.heap.get? b = some o → g.get? b = some o := fun b o x y e => keep b o x (hideAll_get _ e (by simpa using y))
    have tr : ∀ b u, Hn b = some u → b ≠ a ∧ b ≠ kS := fun b u e => ⟨(fun z => by
      rw [z, ha] at e
      cases e), (fun z => by
      rw [z, hk] at e
      cases e)⟩
    have over : ∀ b u, Hn b = some u → upd Hn a (.lst (byKey tok xs kz)) b = some u := fun b u e => by
      rw [upd_ne (tr b u e).1]
      exact e
    refine h Hn _ (In.call (ch := [a, kS]) (g' := s'.gens) (d' := s'.drawn) (t' := tk) (h' := g) ⟨fun b o e n _ x => kp b o (fun z => x (by simp [z])) (fun z => x (by simp [z])) e, fun b o e n _ x => ⟨o.slots, kp b o (fun z => x (by simp [z])) (fun z => x (by simp [z])) e⟩,
      fun b o e n x => by rw [upd_ne (fun z => x (by simp [z]))]; exact n, fun b o e x => ⟨o, kp b o (fun z => x (by simp [z])) (fun z => x (by simp [z])) e⟩, fun b xs e => over b _ e, fun b o u e => over b _ e, fun b ps e => ⟨#[], by rw [Array.append_empty]; exact over b _ e⟩⟩ (fun b u e => ?_) In.bare fun b hb' => ?_) sm
    · by_cases z : b = a
      · subst z
        rw [upd_same] at e
        cases e
        exact ⟨ol, _, c3, vals_each out, hg⟩
      · rw [upd_ne z] at e
        exact (In.hok b u e).stay (fun c v hc q => by
          rcases hc with rfl | hc
          · exact kp _ _ (tr _ _ e).1 (tr _ _ e).2 q
          · exact kp _ _ (tr _ _ hc).1 (tr _ _ hc).2 q) (fun c q => over c _ q) fun c ys q => over c _ q
    · rcases List.mem_cons.mp hb' with rfl | hb'
      · exact ⟨fa.2.2.2.1, fa.2.1, fa.2.2.2.2.1, fa.2.2.2.2.2⟩
      · obtain rfl := List.mem_singleton.mp hb'
        exact ⟨fk.2.2.2.1, fk.2.1, fk.2.2.2.2.1, fk.2.2.2.2.2⟩
/-- the reading of sorted(xs, key=f) -/
def rSortF (K : PySem.W.Frag) (f : Addr) (sp : Sp) : List V → List V → Hp → VK → Prop := fun vs zs H Q => ∃ (l : Addr) (xs : List V) (kz : List PyData) (tok : Tok'), vs = [.ref l] ∧ zs = [.ref f] ∧ SqL K H l xs ∧ kz.length = xs.length ∧ KeysG kz tok ∧ (∀ d ∈ kz, d.depth ≤ 60) ∧
  (∀ (i : Nat) (x : V) (k : PyData), xs[i]? = some x → kz[i]? = some k → ∀ H1, Same H H1 → sp [x] H1 (fun v H2 => Dp K H2 v k ∧ Same H1 H2) fun _ _ _ => False) ∧
  ∀ (p : Addr) (H1 : Hp), H p = none → Same H H1 → H1 p = some (.lst (byKey tok xs kz)) → Q (.ref p) H1
theorem cr_sortF {f : Addr} {fd : FuncData} {n : Nat} {sp : Sp} {ps : List Str} (F : FnOk X.prog X.w X.K X.mg X.base CX0 n f fd ps sp) (hr : Room (n + 2) X.A) (hb : Binds X.K fd ps []) (h1 : ps.length = 1) :
    CallRK X (.builtin "sorted") [Str.ofString "key"] (rSortF X.K f sp) := by
  intro pins s σ H vs zs us ws Q I r rz h
  obtain ⟨l, xs, kz, tok, rfl, rfl, hs, len, K, dep, call, q⟩ := h
  obtain rfl := Vals.ref1 r
  obtain rfl := Vals.ref1 rz
  obtain ⟨its, rv, hl, big⟩ := I.list hs
  have lv := rv.length
  refine sorted_of_sort hl.isList (by omega) (ksk_s1 _ _) (fun _ => ksk_l1 _ _) fun E' => ?_
  show wpAny _ _ (Builtin.«list.sort» ⟨[.ref _], [(Str.ofString "key", .ref f)]⟩) _ _ _
  rw [ksk_t1]
  have ho := copyHeap_at s.heap its
  have la : s.heap.objs.size + 1 < (copyHeap s.heap its).objs.size := Heap.lt_size ho
  obtain ⟨e1, ho1⟩ : ∃ e1, ((copyHeap s.heap its).update (s.heap.objs.size + 1) (Obj.mapSeq fun _ => (#[] : Array Value))).get? (s.heap.objs.size + 1) = some (seqObj "list" #[] e1) := ⟨_, get?_update_seq ho fun _ => #[]⟩
  unfold ksk_tree
  refine wpAny_bind (listItems_at ho rfl (wpAny_bind (listUpdate_at ho rfl ?_ (by rw [List.size_toArray]; omega) (Nat.zero_le _))))
  refine wpAny_bind (seqEpoch_at ho1 rfl (wpAny_bind (wpAny_newTuple ?_ (by show its.length ≤ _; omega))))
  refine wpAny_bind (wpAny_newList ?_ (Nat.zero_le _))
  refine wpAny_holding ?_
  have szS : (((copyHeap s.heap its).update (s.heap.objs.size + 1) (Obj.mapSeq fun _ => (#[] : Array Value))).push (seqObj "tuple" its.toArray 0)).objs.size = (copyHeap s.heap its).objs.size + 1 := by rw [size_push', Heap.size_update]
  have old : ∀ b o, s.heap.get? b = some o → (((((copyHeap s.heap its).update (s.heap.objs.size + 1) (Obj.mapSeq fun _ => (#[] : Array Value))).push (seqObj "tuple" its.toArray 0)).push (seqObj "list" #[] 0))).get? b = some o := fun b o e => sorting_copy_old e
  have fra : H (s.heap.objs.size + 1) = none := I.hok.fresh (Nat.le_succ _)
  have n3 := line63
  refine v_rest (ks0 := ()) (n := n) F hr.in1.in1 hb h1 K (I.kept (t' := s.toks) old) (I.fpOk (Nat.le_succ _) fra)
    (I.fpOk (b := (((copyHeap s.heap its).update (s.heap.objs.size + 1) (Obj.mapSeq fun _ => (#[] : Array Value))).push (seqObj "tuple" its.toArray 0)).objs.size) (by rw [szS]; omega) (I.hok.fresh (by rw [szS]; omega)))
    (Heap.get?_push_size _ rfl) (Heap.get?_push_of_some _ (Heap.get?_push_of_some _ ho1)) (by rw [szS]; exact Nat.ne_of_gt (Nat.lt_succ_of_lt la)) rv len big (fun d hd => ?_) call fun Hn sn In sm => ⟨rfl, ?_⟩
  · have h2 := hr.un
    have h3 := dep d hd
    show X.A.units + 1 + 1 + d.depth < cLine
    omega
  · refine ⟨.ref _, _, In, rfl, q _ _ fra (fun b o e => ?_) upd_same⟩
    rw [upd_ne (ne_of_none e fra)]
    exact sm b o e
end
end SK
namespace DcT
open PySem PySem.Spec PyProof.Rows L2
/-! ### {k: v for target in iter if ..} whose keys are tuples of ints and texts; also as x = {..} -/
section
variable {X : Cx}
theorem setT {pins : List (Addr × Obj)} {σ : L2.St} {H : Hp} {s : Shared} {E : Value → Shared → Prop} {D b : Addr} {kvs : List (List Key × V)} {k : List Key} {v : V} {r : Value} {Q : Unit → Shared → Prop} (hu : X.A.units + 1 < cLine) (I : Inv X pins σ H s) (hD : H D = some (.dT kvs)) (hz : kvs.length < sizeLine)
    (hk : H b = some (.tup (k.map kV))) (rv : RelV v r) (h : ∀ s', Inv X pins σ (upd H D (.dT (putK kvs k v))) s' → Q () s') : wpAny (model X.prog X.w) X.A (dictSet D (.ref b) r) Q E s := by
  obtain ⟨z, ns, xs, rel, dd⟩ := dt_of I.hok hD
  have le : (putK kvs k v).length ≤ sizeLine := by have := length_putK kvs k v; omega
  refine wpAny_dictSet_heap (hsz := by rw [← Paired.length rel]; exact z) (Nat.lt_of_succ_lt hu) (key_of I.hok hk) dd fun h' d2 same => h _ ?_
  obtain ⟨q, es, ep, e1, e2, e3, e4, _, e5⟩ := d2
  refine d_write I (by rw [hD]; exact True.intro) same ⟨q, e1⟩ ⟨le, ns, _, (rel.put k hk rv).keeps fun c ys ec => ?_, q, es, ep, e1, e2, e3, e4, e5⟩
  rw [upd_ne (ne_of ec hD (fun z => nomatch z))]
  exact ec
def tD (wi : TI) (g : TG) (tt : TT) (tk tv : TE) (vs : List Nat) : TE := fun σ H Q => wi σ H fun J H1 => ∀ D, H1 D = none → ∃ W : Nat → Nat → Hp → Prop, (∃ m, W 0 m (upd H1 D (.dT []))) ∧ ∀ i m H, W i m H →
  (J.stop i H ∧ Q (.ref D) H) ∨ (J.go i H ∧ ∃ Nx : Hp → Prop, (∀ H', Nx H' → ∃ m', m' < m ∧ W (i + 1) m' H') ∧ ∀ x H', J.yld i H x H' → g x (wipe σ vs) H' fun σ2 H2 => wipe σ2 vs = wipe σ vs ∧ tt σ2 H2 fun b H3 =>
    if b = true then tk σ2 H3 fun y H4 => tv σ2 H4 fun z H5 => ∃ kvs k c, y = .ref c ∧ H5 c = some (.tup (k.map kV)) ∧ H5 D = some (.dT kvs) ∧ kvs.length < sizeLine ∧ Nx (upd H5 D (.dT (putK kvs k z))) else Nx H3)
theorem core {pins : List (Addr × Obj)} {s : Shared} {σ : L2.St} {H : Hp} {Q : VK} {kx vx tg iter : Expr} {ifs : List Expr} {scope : Scope} {own : List (Str × Nat)} {pos pos' : Pos} {wi : TI} {g : TG} {tt : TT} {tk tv : TE} {use : Option (Value → Sem Unit)} {Qf : Value → Shared → Prop}
    (hu : X.A.units + 1 < cLine) (hc : X.calm = true) (hN : X.N.Nodup) (I : Inv X pins σ H s) (hi : PI X tg iter wi) (ok : BlkOk X.N X.env.scope scope own)
    (hg : ∀ s H C cl fp, PG (X.blk s H scope (compEnvC scope cl C X.env) fp) tg g) (ht : ∀ s H C cl fp, PTs (X.blk s H scope (compEnvC scope cl C X.env) fp) ifs tt)
    (hk : ∀ s H C cl fp, PE (X.blk s H scope (compEnvC scope cl C X.env) fp) kx tk) (he : ∀ s H C cl fp, PE (X.blk s H scope (compEnvC scope cl C X.env) fp) vx tv) (hs : ∀ x, foldedSetIterable iter X.env x = pure x)
    (h : tD wi g tt tk tv (own.map (·.2)) σ H Q)
    (end_ : ∀ D C s' m H', Inv X pins σ H' s' → Q (.ref D) H' → s'.heap.Ns C m → FpOk X pins H' C → compPost (model X.prog X.w) X.A X.xe use Qf (.ref D) C (.ok .next) s') :
    wpAny (model X.prog X.w) X.A (comprehension (.DictComp kx vx [⟨tg, iter, ifs, 0⟩] scope pos) scope X.env pos' newDict false (eval iter X.env) use) Qf X.xe s := by
  have clos : ∀ y ∈ scope.names, y.2 = .free → ∃ c, X.env.cells.lookup y.1 = some c := fun y hy e =>
    (ok.free y hy e).elim (fun k => I.ok.has _ (.inl k)) fun k => I.ok.has _ (.inr k)
  refine wpAny_comprehension_free (use := use) rfl hs (closure_ok clos) ok.kind (fun y hy e => by rw [ok.uniq y hy, e]) (thn (hi.run pins s σ H _ I h) fun xv s1 hx => thn hx fun itv s2 h2 => ?_)
  obtain ⟨it, fp, tn, J, H2, e, I2, T, st2, f2, q⟩ := h2
  subst e
  refine wpAny_newObj_type (newEnv_comp ?_)
  obtain ⟨W, ⟨m0, w0⟩, turn⟩ := q s2.heap.objs.size (I2.hok.fresh (Nat.le_refl _))
  generalize hH3 : upd H2 s2.heap.objs.size (.dT []) = H3 at w0
  have push : ∀ b o, s2.heap.get? b = some o → (s2.heap.push { cls := .type "dict", data := .dict #[] }).get? b = some o := fun b o e => Heap.get?_push_of_some _ e
  have I3 : Inv X pins σ H3 ({ s2 with heap := s2.heap.push { cls := .type "dict", data := .dict #[] } } : Shared) := by
    rw [← hH3]
    exact I2.laid (t' := s2.toks) push (Nat.le_refl _) (dt_empty s2.heap I2.big)
  have f3 : ∀ b ∈ fp, FpOk X pins H3 b ∧ b < (s2.heap.push ({ cls := .type "dict", data := .dict #[] } : Obj)).objs.size := fun b hb => by
    obtain ⟨o, e, _⟩ := T.obj _ _ st2 b hb
    have lt : b < s2.heap.objs.size := Heap.lt_size e
    refine ⟨⟨?_, (f2 b hb).2⟩, by rw [Heap.size_push]; exact Nat.lt_succ_of_lt lt⟩
    rw [← hH3, upd_ne (Nat.ne_of_lt lt)]
    exact (f2 b hb).1
  generalize hs3 : ({ s2 with heap := s2.heap.push { cls := .type "dict", data := .dict #[] } } : Shared) = s3 at I3
  have h3 : s3.heap = s2.heap.push { cls := .type "dict", data := .dict #[] } := by rw [← hs3]
  rw [← h3] at f3
  have st3 : tn 0 s3.heap := T.keep _ _ _ st2 fun b _ o e => by rw [h3]; exact push b o e
  have I4 := block_start I3 ok hN f3
  generalize hcl : cellsFrom (s3.heap.objs.size + 1) scope.names (cloFrom X.env.cells scope.names []) = cl at I4
  have pg := hg s3 H3 s3.heap.objs.size cl fp
  have pt := ht s3 H3 s3.heap.objs.size cl fp
  have pk := hk s3 H3 s3.heap.objs.size cl fp
  have pe := he s3 H3 s3.heap.objs.size cl fp
  show codeAny _ _ (.compStart (.DictComp kx vx [⟨tg, iter, ifs, 0⟩] scope pos) 0 (.ref it) (.ref s2.heap.objs.size) (compEnvC scope cl s3.heap.objs.size X.env)) (compPost (model X.prog X.w) X.A X.xe use Qf (.ref s2.heap.objs.size) s3.heap.objs.size) { s3 with heap := pushCells (s3.heap.push { cls := .type "dict", data := .dict #[] }) scope.names }
  generalize hD : s2.heap.objs.size = D at turn
  generalize hce : compEnvC scope cl s3.heap.objs.size X.env = ce at I4 pg pt pk pe ⊢
  have lo : ce.locals = s3.heap.objs.size := by rw [← hce]; rfl
  generalize hs4 : ({ s3 with heap := pushCells (s3.heap.push { cls := .type "dict", data := .dict #[] }) scope.names } : Shared) = s4 at I4 ⊢
  have st4 : tn 0 s4.heap := T.keep _ _ _ st3 fun b _ o e => by rw [← hs4]; exact pushCells_keeps _ _ _ _ (Heap.get?_push_of_some _ e)
  have fpo : ∀ {σ' : L2.St} {H' : Hp} {s' : Shared}, Inv (X.blk s3 H3 scope ce fp) [] σ' H' s' → (∀ b ∈ fp, H' b = none) → ∀ b ∈ fp, FpOk (X.blk s3 H3 scope ce fp) [] H' b := fun {σ' H' s'} I' hn b hb =>
    ⟨hn b hb, (I'.ok.exf b hb).1, I'.ok.exfs b hb, .inl hb, fun x c e => (I'.ok.exf b hb).2 x c e, fun p hp => absurd (show p ∈ ([] : List (Addr × Obj)) ++ [] from hp) (by simp)⟩
  refine codeAny_compStart_dict ?_ (T.self X.A 0 _ _ _ st4 ?_)
  all_goals
    refine compLoop_anyD (fun n s' => ∃ i H', Inv (X.blk s3 H3 scope ce fp) [] (wipe σ (own.map (·.2))) H' s' ∧ tn i s'.heap ∧ (∀ b ∈ fp, H' b = none) ∧ W i n H') ?_ m0 ⟨0, H3, I4, st4, fun b hb => (f3 b hb).1.1, w0⟩
    rintro n s5 ⟨i, H5, I5, st5, n5, w5⟩
    rcases turn i n H5 w5 with ⟨stop, qq⟩ | ⟨go, Nx, more, step⟩
    · refine thnF (T.done (X.blk s3 H3 scope ce fp) rfl rfl rfl hc i [] s5 _ H5 (fun _ _ => False) I5 (fpo I5 n5) st5 stop) fun r s6 ⟨hr, I6⟩ => ?_
      subst hr
      have I7 : Inv X pins σ H5 s6 := I3.call' (ch := fp) I6.os I6.base I6.hok I6.bare fun b hb => ⟨(f3 b hb).1.2.2.2.1, (f3 b hb).1.2.1, (f3 b hb).1.2.2.2.2.1, (f3 b hb).1.2.2.2.2.2⟩
      obtain ⟨m, hn, _⟩ := I6.loc
      have hn : s6.heap.Ns ce.locals m := hn
      have nC : H5 ce.locals = none := I6.free
      rw [lo] at hn nC
      exact end_ D s3.heap.objs.size s6 m H5 I7 qq hn (I3.fpOk (Nat.le_refl _) nC)
    · refine thnF (T.item (X.blk s3 H3 scope ce fp) rfl rfl rfl hc i [] s5 _ H5 (fun _ _ => False) I5 (fpo I5 n5) st5 go) fun r s6 ⟨u, hr, h6⟩ => ?_
      subst hr
      refine thnF h6 fun _ s7 ⟨x, H7, I7, r7, y7, st7, n7⟩ => ?_
      refine thnF (pg.run _ s7 _ H7 x u _ (I7.pinned (fpo I7 n7) (T.obj _ _ st7)) r7 (step x H7 y7)) fun _ s8 ⟨σ8, H8, I8, hw8, q8⟩ => ?_
      refine thnF (pt.run _ s8 σ8 H8 _ I8 q8) fun b s9 ⟨H9, I9, q9⟩ => ?_
      have back : ∀ {s' : Shared} {H' : Hp}, Inv (X.blk s3 H3 scope ce fp) ([] ++ pinsAt fp s7.heap) σ8 H' s' → Nx H' → ∃ m, m < n ∧ ∃ i H', Inv (X.blk s3 H3 scope ce fp) [] (wipe σ (own.map (·.2))) H' s' ∧ tn i s'.heap ∧ (∀ b ∈ fp, H' b = none) ∧ W i m H' := fun {s' H'} I' nx => by
        obtain ⟨m', lt, w'⟩ := more H' nx
        have held : ∀ b ∈ fp, ∀ o, s7.heap.get? b = some o → s'.heap.get? b = some o ∧ H' b = none := fun b hb o e =>
          let z := I'.pin (b, o) (List.mem_append_right _ (List.mem_append_right _ (mem_pinsAt hb e)))
          ⟨z.1, z.2.1⟩
        refine ⟨m', lt, i + 1, H', (I'.unpinned (pins := [])).weak (by rw [← hw8, wipe_length]) (fun j v e => ?_), T.keep _ _ _ st7 fun b hb o e => (held b hb o e).1, fun b hb => ?_, w'⟩
        · rw [← hw8] at e
          exact (wipe_some e).1
        · obtain ⟨o, e, _⟩ := T.obj _ _ st7 b hb
          exact (held b hb o e).2
      cases b with
      | false =>
        simp only [Bool.false_eq_true, if_false] at q9 ⊢
        exact back I9 q9
      | true =>
        simp only [if_true] at q9 ⊢
        refine thnF (pk.run _ s9 σ8 H9 _ I9 q9) fun z s10 ⟨yk, H10, I10, r10, q10⟩ => ?_
        refine thnF (pe.run _ s10 σ8 H10 _ I10 q10) fun z2 s11 ⟨yv, H11, I11, r11, kvs, k, c, ek, hc11, hD11, hz11, nx⟩ => ?_
        subst ek
        obtain rfl : z = Value.ref c := r10
        exact setT (X := X.blk s3 H3 scope ce fp) hu I11 hD11 hz11 hc11 r11 fun s12 I12 => back I12 nx
/-- as a value -/
theorem pe_dcT {kx vx tg iter : Expr} {ifs : List Expr} {scope : Scope} {own : List (Str × Nat)} {pos : Pos} {wi : TI} {g : TG} {tt : TT} {tk tv : TE} (hu : X.A.units + 1 < cLine) (hc : X.calm = true) (hN : X.N.Nodup) (hi : PI X tg iter wi) (ok : BlkOk X.N X.env.scope scope own)
    (hg : ∀ s H C cl fp, PG (X.blk s H scope (compEnvC scope cl C X.env) fp) tg g) (ht : ∀ s H C cl fp, PTs (X.blk s H scope (compEnvC scope cl C X.env) fp) ifs tt)
    (hk : ∀ s H C cl fp, PE (X.blk s H scope (compEnvC scope cl C X.env) fp) kx tk) (he : ∀ s H C cl fp, PE (X.blk s H scope (compEnvC scope cl C X.env) fp) vx tv) (hs : ∀ x, foldedSetIterable iter X.env x = pure x := by intro _; rfl) :
    PE X (.DictComp kx vx [⟨tg, iter, ifs, 0⟩] scope pos) (tD wi g tt tk tv (own.map (·.2))) := by
  refine ⟨fun pins s σ H Q I h => ?_⟩
  rw [arm_eval_DictComp]
  refine core hu hc hN I hi ok hg ht hk he hs h fun D C s' m H' I' q hn f => ⟨m, hn, fun h'' sb => ?_⟩
  obtain ⟨f0, f1, f2, f3, f4, f5⟩ := f
  exact ⟨.ref D, H', I'.turned (t' := s'.toks) (fun b o hb e => (sb.2 b hb).trans e) f0 f1 f3 f4 f5, rfl, q⟩
/-- x = {..} on one line, x a local -/
theorem ps_setDcT {i : Nat} {y : Str} {py : Pos} {kx vx tg iter : Expr} {ifs : List Expr} {scope : Scope} {own : List (Str × Nat)} {pos spos : Pos} {wi : TI} {g : TG} {tt : TT} {tk tv : TE} (hu : X.A.units + 1 < cLine) (hc : X.calm = true) (hN : X.N.Nodup) (hy : X.N[i]? = some y) (hyl : X.env.scope.names.lookup y = some .local)
    (hsw : swapsWith (.DictComp kx vx [⟨tg, iter, ifs, 0⟩] scope pos) (some (.Name y py)) spos.line X.env = pure true) (hi : PI X tg iter wi) (ok : BlkOk X.N X.env.scope scope own)
    (hg : ∀ s H C cl fp, PG (X.blk s H scope (compEnvC scope cl C X.env) fp) tg g) (ht : ∀ s H C cl fp, PTs (X.blk s H scope (compEnvC scope cl C X.env) fp) ifs tt)
    (hk : ∀ s H C cl fp, PE (X.blk s H scope (compEnvC scope cl C X.env) fp) kx tk) (he : ∀ s H C cl fp, PE (X.blk s H scope (compEnvC scope cl C X.env) fp) vx tv) (hs : ∀ x, foldedSetIterable iter X.env x = pure x := by intro _; rfl) :
    PS X (.Assign [.Name y py] (.DictComp kx vx [⟨tg, iter, ifs, 0⟩] scope pos) spos) (tAsg (tD wi g tt tk tv (own.map (·.2))) (gName i)) := by
  refine ⟨fun pins s σ H D I h => ?_⟩
  rw [exec_Assign_Name_used _ _ _ _ hsw]
  refine wpAny_bind (wpAny_standAt (wpAny_bind ?_))
  show wpAny _ X.A (do let _ ← comprehension (.DictComp kx vx [⟨tg, iter, ifs, 0⟩] scope pos) scope X.env (firstIterPos [⟨tg, iter, ifs, 0⟩] pos) newDict false (eval iter X.env) (some (assign (.Name y py) X.env))) _ _ s
  have h : tD wi g tt tk tv (own.map (·.2)) σ H (fun x H1 => gName i x σ H1 D.nx) := h
  refine wpAny_bind (thn (core (Qf := fun _ s' => SP X pins D .next s') hu hc hN I hi ok hg ht hk he hs h fun L C s' m H' I' q hn f => ?_) fun _ s' hq => wpAny_pure (wpAny_pure hq))
  show wpAny _ _ (assign (.Name y py) X.env (.ref L)) _ _ _
  refine wpAny_assign_Name (store_ok2 (v := V.ref L) I' hN hy (.inl hyl) rfl (fun s2 I2 ⟨a, sb, ha⟩ => ?_) (.inr hyl))
  obtain ⟨f0, f1, f2, f3, f4, f5⟩ := f
  refine ⟨m, hn.sameBut sb (fun e => ha.elim (fun z => f1 (e.trans z)) fun z => f4 y a z e.symm), fun h3 sb3 => ?_⟩
  exact ⟨_, H', I2.turned (t' := s2.toks) (fun b o hb e => (sb3.2 b hb).trans e) f0 f1 f3 f4 f5, q⟩
theorem sw_dict {kx vx : Expr} {gs : List Comprehension} {scope : Scope} {pos py : Pos} {y : Str} {l : Nat} {env : Env} (hk : env.scope.kind = .function) (hy : env.scope.names.lookup y = some .local) (hl : (py.line == pos.line) = true)
    (ha : (scope.names.any fun (n, k) => n == y && (k == .local || k == .cell)) = false) : swapsWith (.DictComp kx vx gs scope pos) (some (.Name y py)) l env = pure true := by
  have ky : env.kindOf y = some .local := hy
  have hb : env.blockKind = .function := by unfold Env.blockKind; rw [hk]; rfl
  unfold swapsWith
  simp only [hb, ky, ha, Expr.pos, hl]
  rfl
/-- over a list that stays -/
theorem dcT_list {K : PySem.W.Frag} {a : Addr} {xs : List V} {g : TG} {tt : TT} {tk tv : TE} {vs : List Nat} {σ : L2.St} {H1 : Hp} {D : Addr} {Qd : Hp → Prop} (Pv : Nat → Hp → Prop) (h0 : Pv 0 (upd H1 D (.dT []))) (hl : ∀ i H, i ≤ xs.length → Pv i H → SqL K H a xs)
    (hs : ∀ i x H, xs[i]? = some x → Pv i H → g x (wipe σ vs) H fun σ2 H2 => wipe σ2 vs = wipe σ vs ∧ tt σ2 H2 fun b H3 =>
      if b = true then tk σ2 H3 fun y H4 => tv σ2 H4 fun z H5 => ∃ kvs k c, y = .ref c ∧ H5 c = some (.tup (k.map kV)) ∧ H5 D = some (.dT kvs) ∧ kvs.length < sizeLine ∧ Pv (i + 1) (upd H5 D (.dT (putK kvs k z))) else Pv (i + 1) H3) (hd : ∀ H, Pv xs.length H → Qd H) :
    ∃ W : Nat → Nat → Hp → Prop, (∃ m, W 0 m (upd H1 D (.dT []))) ∧ ∀ i m H, W i m H →
      ((Itl K a).stop i H ∧ Qd H) ∨ ((Itl K a).go i H ∧ ∃ Nx : Hp → Prop, (∀ H', Nx H' → ∃ m', m' < m ∧ W (i + 1) m' H') ∧ ∀ x H', (Itl K a).yld i H x H' → g x (wipe σ vs) H' fun σ2 H2 => wipe σ2 vs = wipe σ vs ∧ tt σ2 H2 fun b H3 =>
        if b = true then tk σ2 H3 fun y H4 => tv σ2 H4 fun z H5 => ∃ kvs k c, y = .ref c ∧ H5 c = some (.tup (k.map kV)) ∧ H5 D = some (.dT kvs) ∧ kvs.length < sizeLine ∧ Nx (upd H5 D (.dT (putK kvs k z))) else Nx H3) := by
  refine ⟨fun i m H => m = xs.length - i ∧ i ≤ xs.length ∧ Pv i H, ⟨xs.length, by simp, Nat.zero_le _, h0⟩, ?_⟩
  rintro i m H ⟨rfl, hi, p⟩
  have q := hl i H hi p
  rcases Nat.lt_or_ge i xs.length with lt | ge
  · refine .inr ⟨⟨xs, xs[i], q, by simp [lt]⟩, Pv (i + 1), fun H' p' => ⟨xs.length - (i + 1), by omega, rfl, lt, p'⟩, fun x H' y => ?_⟩
    obtain ⟨e, y⟩ := y
    subst e
    exact hs i x _ (y xs q) p
  · obtain rfl : i = xs.length := by omega
    exact .inl ⟨⟨xs, q, Nat.le_refl _⟩, hd H p⟩
end
end DcT
namespace L2
open PySem PySem.Spec PyProof.Rows
/-- a callee that may raise, called where it doesn't -/
theorem passN {X : Cx} {C : CXT} (h : C = L2.CX X.prog X.w) : Passes C X (fun _ _ _ => False) := by
  subst h
  exact passes_call (W := fun _ _ _ _ => False) takes0 (fun _ _ _ _ h => h)
section
variable {X : Cx} {CX : CXT} {k : Nat} {f C : Addr} {fd : FuncData} {ps : List Str} {sp : Sp} {E : St → XK} {x m : Str} {p pos apos : Pos} {e o : Expr} {es : List Expr} {ta : TE} {t : TA}
/-- o.m(e, ..), what it may raise told at the slots -/
def tMethX (C : Addr) (m : Str) (sp : Sp) (E : St → XK) (ta : TE) (t : TA) : TE := fun σ H Q => ta σ H fun x H1 => ∃ a dx fs, x = .ref a ∧ H1 a = some (.ins C dx fs) ∧ fs.lookup m = none ∧ t σ H1 fun vs H2 => sp (.ref a :: vs) H2 Q (E σ)
theorem pe_methX {pl : Sem Bool} (he : PE X o ta) (c : Cls X.K C) (hm : Meth X.K C m f) (F : FnOk X.prog X.w X.K X.mg X.base CX k f fd ps sp) (hr : Room k X.A) (hb : Binds X.K fd ps []) (hx : ∀ σ, PassesAt CX X σ (E σ)) (ha : PA X (e :: es) t)
    (hst : starEach (e :: es) X.env = (false, eval e X.env) :: starEach es X.env := by rfl) (hpl : (backTo pos (starEach es X.env)).any (·.1) = false := by rfl)
    (ht : eval (.Call (.Attribute o m apos) (e :: es) [] pos) X.env = (do
      let ov ← eval o X.env
      standAt apos.atName
      let (f, first) ← holding [ov] (getMethod ov m pl)
      callWith pos f first (backTo pos (starEach (e :: es) X.env)) (backToKw pos (keywordEach [] X.env))) := by rfl) :
    PE X (.Call (.Attribute o m apos) (e :: es) [] pos) (tMethX C m sp E ta t) := by
  refine ⟨fun pins s σ H Q I h => ?_⟩
  refine PySem.W.methodCall_KW (pl := pl) (thn (he.run pins s σ H _ I h) fun u s1 ⟨x, H1, I1, rx, a, dx, fs, ex, ea, l, q⟩ => ?_) ht
  subst ex
  obtain rfl : u = Value.ref a := rx
  refine getmeth_ok I1 ea c hm l ?_
  refine PySem.W.callWith_K (first := [.ref a]) (h₀ := X.base) I.ok.mod.kin hm.kp (thn (ha.run pos pins s1 σ H1 _ I1 q) fun us s2 ⟨vs, H2, I2, r, q2⟩ => ⟨I2.kIn, ?_⟩) hst hpl
  exact run_fnS (us := .ref a :: us) (vs := .ref a :: vs) F hr hb (hx σ) I2 (.cons rfl r) q2
theorem pe_methX0 {pl : Sem Bool} (he : PE X o ta) (c : Cls X.K C) (hm : Meth X.K C m f) (F : FnOk X.prog X.w X.K X.mg X.base CX k f fd ps sp) (hr : Room k X.A) (hb : Binds X.K fd ps []) (hx : ∀ σ, PassesAt CX X σ (E σ))
    (ht : eval (.Call (.Attribute o m apos) [] [] pos) X.env = (do
      let ov ← eval o X.env
      standAt apos.atName
      let (f, first) ← holding [ov] (getMethod ov m pl)
      callWith pos f first (backTo pos (starEach [] X.env)) (backToKw pos (keywordEach [] X.env))) := by rfl) :
    PE X (.Call (.Attribute o m apos) [] [] pos) (tMethX C m sp E ta tNil) := by
  refine ⟨fun pins s σ H Q I h => ?_⟩
  refine PySem.W.methodCall_KW (pl := pl) (thn (he.run pins s σ H _ I h) fun u s1 ⟨x, H1, I1, rx, a, dx, fs, ex, ea, l, q⟩ => ?_) ht
  subst ex
  obtain rfl : u = Value.ref a := rx
  refine getmeth_ok I1 ea c hm l ?_
  exact PySem.W.callWith_K0 (first := [.ref a]) I1.kIn hm.kp (run_fnS (us := [.ref a]) (vs := [.ref a]) F hr hb (hx σ) I1 (.cons rfl .nil) q)
/-- C(e, ..), what its __init__ may raise told at the slots -/
def tMakeX (C : Addr) (sp : Sp) (E : St → XK) (t : TA) : TE := fun σ H Q => t σ H fun vs H1 => ∀ x dx, H1 x = none → H1 dx = none → dx ≠ x →
  sp (.ref x :: vs) (upd (upd H1 dx (.own x)) x (.ins C dx [])) (fun v H2 => v = .non ∧ Q (.ref x) H2) (E σ)
theorem pe_makeX (M : Mk X.K C f) (F : FnOk X.prog X.w X.K X.mg X.base CX k f fd ps sp) (hr : Room (k + 1) X.A) (hg : Gl X x) (hm : X.mg x = some (.ref C)) (hb : Binds X.K fd ps []) (hx : ∀ σ, PassesAt CX X σ (E σ))
    (ha : PA X (e :: es) t) (hdb : (x == ("__debug__" : Str)) = false := by decide) (he : starEach (e :: es) X.env = (false, eval e X.env) :: starEach es X.env := by rfl) (hpl : (backTo pos (starEach es X.env)).any (·.1) = false := by rfl) :
    PE X (.Call (.Name x p) (e :: es) [] pos) (tMakeX C sp E t) := by
  refine ⟨fun pins s σ H Q I h => ?_⟩
  refine wpAny_Call_Name_kw (ld_glob I hg hm ?_ hdb)
  refine PySem.W.callWith_K (h₀ := X.base) I.ok.mod.kin M.kp (thn (ha.run pos pins s σ H _ I h) fun us s1 ⟨vs, H1, I1, r, q⟩ => ⟨I1.kIn, ?_⟩) he hpl
  have hq := q (s1.heap.objs.size + 1) s1.heap.objs.size (I1.hok.fresh (Nat.le_succ _)) (I1.hok.fresh (Nat.le_refl _)) (Nat.ne_of_lt (Nat.lt_succ_self _))
  have I2 := Inv.made (C := C) I1
  have r2 : Vals (V.ref (s1.heap.objs.size + 1) :: vs) (Value.ref (s1.heap.objs.size + 1) :: us) := .cons rfl r
  have hl : (Value.ref (s1.heap.objs.size + 1) :: us).length = ps.length := by
    have e := r2.length
    rw [F.len _ _ _ _ hq] at e
    exact e.symm
  have b := hb _ (Value.ref (s1.heap.objs.size + 1) :: us) I2.kIn (by rw [List.append_nil]; exact hl)
  rw [List.append_nil] at b
  refine wpAny_call (make_map (f := f) I1.kIn M.makes M.init (beq_iff_eq.mp M.fn) (codeAny_mono (F.run _ X.stack _ _ ⟨Value.ref (s1.heap.objs.size + 1) :: us, []⟩ (Value.ref (s1.heap.objs.size + 1) :: us) _ _ (E σ) (hr.make C us [])
    (I2.env0.make C us []) b r2 hq) fun r s' hq' => ?_))
  cases r with
  | error e => exact hx σ pins _ _ e s' I2 hq'
  | ok fl =>
    cases fl with
    | ret u =>
      obtain ⟨v, H', I3, rv, ev, q3⟩ := I2.after hq'
      subst ev
      exact ⟨rv, ⟨V.ref (s1.heap.objs.size + 1), H', I3, rfl, q3⟩⟩
    | next => exact False.elim hq'
    | brk => exact False.elim hq'
    | cont => exact False.elim hq'
end
/-- isinstance(e, c), e the exception that the suite holds, with a dict of its own -/
theorem call_isX {X : Cx} {a D : Addr} {cls : Value} {oe : Obj} {d : Option Addr} {pn : List (Addr × Obj)} (C : ExcC X.K D) (hz : Zc cls d oe) (hf : ∃ vs, oe.data = .fields vs) :
    CallR (X.suite a ((a, oe) :: pn)) (.builtin "isinstance") (fun xs H Q => ∃ (dd : Addr) (fs : List (Str × V)) (c : V) (cv : Value) (b : Bool), cls = .ref D ∧ d = some dd ∧ H dd = some (.xd fs) ∧ xs = [.ref a, c] ∧ (∀ u, RelV c u → u = cv) ∧ PySem.W.kitOne X.K (.ref D) cv = some b ∧ Q (.bl b) H) := by
  intro pins s σ H xs us Q I r h
  obtain ⟨dd, fs, c, cv, b, rfl, rfl, ed, rfl, hcv, e, q⟩ := h
  cases r with
  | cons rx rr =>
    cases rr with
    | cons rt rr =>
      cases rr
      cases rx
      have ec := hcv _ rt
      subst ec
      obtain ⟨hget, _⟩ := I.pin (a, oe) (List.mem_append.mpr (.inl List.mem_cons_self))
      obtain ⟨vs, hv⟩ := hf
      have hx : ObjOk X.prog X.w H s.heap dd (.xd fs) := I.hok dd _ ed
      obtain ⟨mA, hns, hr⟩ := hx
      obtain ⟨od, ho, hl⟩ := lookIn_ns hns
      have J : PySem.W.InstAt s.heap a oe D (some od) := ⟨hget, hz.1, by unfold PySem.W.notCls; rw [hv] <;> rfl, by rw [hz.2]; exact ho⟩
      have hcl : (PySem.W.clsIn X.K D).isSome = true := by
        obtain ⟨cdD, hcD, _⟩ := PySem.W.any_some C.hd
        rw [hcD]
        rfl
      exact PySem.W.kia_one (PySem.W.kitx_exc hcl C.hg C.hk C.hs C.ha C.hn C.ht C.hm) I.kIn J e (fun z => nomatch z) fun tk => ⟨.bl b, H, I.kept (t' := tk) fun _ _ z => z, rfl, q⟩
/-! ### two dicts that hold the same, things at addresses too -/
def sameB : V → Bool
  | .ref _ => true
  | v => flatB v
theorem eqAt_sameB {A : Around} {s : Shared} {v : V} {u u' : Value} (r : RelV v u) (r' : RelV v u') (f : sameB v = true) : SeqAt.EqAt A s u u' true := by
  cases v with
  | ref a =>
    cases (show u = Value.ref a from r)
    cases (show u' = Value.ref a from r')
    exact SeqAt.EqAt.same _
  | non => exact eqAt_same r r' f
  | bl b => exact eqAt_same r r' f
  | int i => exact eqAt_same r r' f
  | str x => exact eqAt_same r r' f
  | byt b => exact eqAt_same r r' f
  | flt x => exact eqAt_same r r' f
  | ty n => exact eqAt_same r r' f
theorem hits_allS {κ : Type} [DecidableEq κ] {A : Around} {s : Shared} {kvs : List (κ × V)} {vb : List (κ × Value)} (rb : KV kvs vb) {ks : List (κ × V)} {va : List (κ × Value)} (ra : KV ks va) :
    (∀ p ∈ ks, valV kvs p.1 = some p.2 ∧ sameB p.2 = true) → PySem.W.KeqHits A s vb va true := by
  unfold KV at ra
  induction ra with
  | nil => intro _; exact .nil
  | @cons p q ps qs h t ih =>
    intro hp
    obtain ⟨h1, h2⟩ := h
    obtain ⟨e, f⟩ := hp p List.mem_cons_self
    have rr : RelO (some p.2) (valueAt vb p.1) := by rw [← e]; exact rb.val p.1
    obtain ⟨y, hy, ry⟩ := rr.some_of
    obtain ⟨k, v⟩ := q
    have h1' : p.1 = k := h1
    rw [h1'] at hy
    show PySem.W.KeqHits A s vb ((k, v) :: qs) (true && true)
    exact .hit hy (eqAt_sameB h2 ry f) (ih fun p' hm => hp p' (List.mem_cons_of_mem _ hm))
def rNeS : R2 := fun x y H Q => ∃ a b ks ls, x = .ref a ∧ y = .ref b ∧ H a = some (.dK ks) ∧ H b = some (.dK ls) ∧ ks.length = ls.length ∧ (∀ p ∈ ks, valV ls p.1 = some p.2 ∧ sameB p.2 = true) ∧ Q (.bl false) H
theorem op_neS {X : Cx} (hu : X.A.units + 1 < cLine) : OpR X (compareOp .NotEq) rNeS := by
  intro pins s σ H x y v u Q I rx ry h
  obtain ⟨a, b, ks, ls, rfl, rfl, ea, eb, hlen, hp, q⟩ := h
  obtain rfl : v = Value.ref a := rx
  obtain rfl : u = Value.ref b := ry
  obtain ⟨_, ya, va, ra, da⟩ := (show ObjOk X.prog X.w H s.heap a (.dK ks) from I.hok a _ ea)
  obtain ⟨_, yb, vb, rb, db⟩ := (show ObjOk X.prog X.w H s.heap b (.dK ls) from I.hok b _ eb)
  have hl : va.length = vb.length := by rw [← ra.length, ← rb.length]; exact hlen
  exact PySem.W.keq_ne (knd := mixKind X.prog X.w) (r := true) ya yb da db (by omega) (fun _ => hits_allS rb ra hp) (fin_bl I q (by simp [hl]))
def rEqS : R2 := fun x y H Q => ∃ a b ks ls, x = .ref a ∧ y = .ref b ∧ H a = some (.dK ks) ∧ H b = some (.dK ls) ∧ ks.length = ls.length ∧ (∀ p ∈ ks, valV ls p.1 = some p.2 ∧ sameB p.2 = true) ∧ Q (.bl true) H
theorem op_eqSX {X : Cx} (hu : X.A.units + 1 < cLine) : OpR X (compareOp .Eq) rEqS := by
  intro pins s σ H x y v u Q I rx ry h
  obtain ⟨a, b, ks, ls, rfl, rfl, ea, eb, hlen, hp, q⟩ := h
  obtain rfl : v = Value.ref a := rx
  obtain rfl : u = Value.ref b := ry
  obtain ⟨_, ya, va, ra, da⟩ := (show ObjOk X.prog X.w H s.heap a (.dK ks) from I.hok a _ ea)
  obtain ⟨_, yb, vb, rb, db⟩ := (show ObjOk X.prog X.w H s.heap b (.dK ls) from I.hok b _ eb)
  have hl : va.length = vb.length := by rw [← ra.length, ← rb.length]; exact hlen
  exact PySem.W.keq_eq (knd := mixKind X.prog X.w) (r := true) ya yb da db (by omega) (fun _ => hits_allS rb ra hp) (fin_bl I q (by simp [hl]))
theorem kit_self {K : PySem.W.Frag} (x : Addr) : PySem.W.kitOne K (.ref x) (.ref x) = some true := by
  show (if (Value.ref x == Value.ref x) = true then some true else _) = some true
  rw [if_pos (by simp)]
theorem kit_ref {K : PySem.W.Frag} {x y : Addr} (hdct : PySem.W.hasDictIn K y = true) (ht : PySem.W.typeIn K (.ref y) = some (.type "type")) (h4 : PySem.W.subIn K (.ref x) (.ref y) = some true) : PySem.W.kitOne K (.ref x) (.ref y) = some true := by
  obtain ⟨cd, hc, _⟩ := PySem.W.any_some hdct
  have e2 : ((PySem.W.clsIn K y).isSome && PySem.W.typeIn K (.ref y) == some (.type "type")) = true := by rw [hc, ht] <;> rfl
  show (if (Value.ref x == Value.ref y) = true then some true else if ((PySem.W.clsIn K y).isSome && PySem.W.typeIn K (.ref y) == some (.type "type")) = true then PySem.W.subIn K (.ref x) (.ref y) else none) = some true
  rw [if_pos e2, h4]
  split <;> rfl
/-! ### two dicts compared whose values are data: True or False -/
def eqT (D : V → PyData) (ks ls : List (Key × V)) : Bool := (ks.length == ls.length) && ks.all fun p => match valV ls p.1 with
  | none => false
  | some v => PyData.eqv (D p.2) (D v)
theorem hits_data {X : Cx} {pins : List (Addr × Obj)} {σ : St} {H : Hp} {s : Shared} {A : Around} (I : Inv X pins σ H s) (hu : A.units + 65 < cLine) (D : V → PyData) {ls : List (Key × V)} {vb : List (Key × Value)} (rb : KV ls vb) (hb : ∀ p ∈ ls, Dp X.K H p.2 (D p.2) ∧ SeqAt.shaped (D p.2) = true) {ks : List (Key × V)} {va : List (Key × Value)} (ra : KV ks va) :
    (∀ p ∈ ks, Dp X.K H p.2 (D p.2) ∧ SeqAt.shaped (D p.2) = true) → PySem.W.KeqHits A.in1 s vb va (ks.all fun p => match valV ls p.1 with
      | none => false
      | some v => PyData.eqv (D p.2) (D v)) := by
  unfold KV at ra
  induction ra with
  | nil => intro _; exact .nil
  | @cons p q ps qs h t ih =>
    intro hp
    obtain ⟨h1, h2⟩ := h
    obtain ⟨k, v⟩ := q
    have h1' : p.1 = k := h1
    have rr := rb.val p.1
    have ih' := ih fun p' hm => hp p' (List.mem_cons_of_mem _ hm)
    rw [List.all_cons]
    cases e : valV ls p.1 with
    | none =>
      rw [e] at rr
      have hn : valueAt vb p.1 = none := by
        cases e2 : valueAt vb p.1 with
        | none => rfl
        | some _ => rw [e2] at rr; exact (show False from rr).elim
      rw [h1'] at hn
      exact .miss hn
    | some y =>
      rw [e] at rr
      obtain ⟨u, hy, ry⟩ := rr.some_of
      rw [h1'] at hy
      have hy2 : ∃ q ∈ ls, q.2 = y := by
        unfold valV at e
        cases e3 : ls.find? fun kv => decide (kv.1 = p.1) with
        | none => rw [e3] at e; cases e
        | some q => rw [e3] at e; exact ⟨q, List.mem_of_find?_eq_some e3, Option.some.inj e⟩
      obtain ⟨q, hq, rfl⟩ := hy2
      obtain ⟨as, r1⟩ := Dp.reads I _ _ _ (hp p List.mem_cons_self).1 h2
      obtain ⟨bs, r2⟩ := Dp.reads I _ _ _ (hb q hq).1 ry
      exact .hit hy (PySem.W.keq_at r1 r2 (hp p List.mem_cons_self).2 (hb q hq).2 (by show A.units + 1 + 64 < cLine; omega)) ih'
def rEqT (K : PySem.W.Frag) (neg : Bool) : R2 := fun x y H Q => ∃ (a b : Addr) (ks ls : List (Key × V)) (D : V → PyData), x = .ref a ∧ y = .ref b ∧ H a = some (.dK ks) ∧ H b = some (.dK ls) ∧ (∀ p ∈ ks, Dp K H p.2 (D p.2) ∧ SeqAt.shaped (D p.2) = true) ∧ (∀ p ∈ ls, Dp K H p.2 (D p.2) ∧ SeqAt.shaped (D p.2) = true) ∧ Q (.bl (if neg then !eqT D ks ls else eqT D ks ls)) H
theorem op_eqT {X : Cx} (hu : X.A.units + 65 < cLine) : OpR X (compareOp .Eq) (rEqT X.K false) := by
  intro pins s σ H x y v u Q I rx ry h
  obtain ⟨a, b, ks, ls, D, rfl, rfl, ea, eb, ha, hb, q⟩ := h
  obtain rfl : v = Value.ref a := rx
  obtain rfl : u = Value.ref b := ry
  obtain ⟨_, ya, va, ra, da⟩ := (show ObjOk X.prog X.w H s.heap a (.dK ks) from I.hok a _ ea)
  obtain ⟨_, yb, vb, rb, db⟩ := (show ObjOk X.prog X.w H s.heap b (.dK ls) from I.hok b _ eb)
  refine PySem.W.keq_eq (knd := mixKind X.prog X.w) ya yb da db (by omega) (fun _ => hits_data I hu D rb hb ra ha) (fin_bl I q ?_)
  unfold eqT
  rw [ra.length, rb.length]
  rfl
theorem op_neT {X : Cx} (hu : X.A.units + 65 < cLine) : OpR X (compareOp .NotEq) (rEqT X.K true) := by
  intro pins s σ H x y v u Q I rx ry h
  obtain ⟨a, b, ks, ls, D, rfl, rfl, ea, eb, ha, hb, q⟩ := h
  obtain rfl : v = Value.ref a := rx
  obtain rfl : u = Value.ref b := ry
  obtain ⟨_, ya, va, ra, da⟩ := (show ObjOk X.prog X.w H s.heap a (.dK ks) from I.hok a _ ea)
  obtain ⟨_, yb, vb, rb, db⟩ := (show ObjOk X.prog X.w H s.heap b (.dK ls) from I.hok b _ eb)
  refine PySem.W.keq_ne (knd := mixKind X.prog X.w) ya yb da db (by omega) (fun _ => hits_data I hu D rb hb ra ha) (fin_bl I q ?_)
  unfold eqT
  rw [ra.length, rb.length]
  rfl
/-! ### == of two objects of an own class by the class's own def, whatever it tells -/
def rEqO (C : Addr) (sp : Sp) (E : XK) : R2 := fun x y H Q => ∃ (a b dx dy : Addr) (fs gs : List (Str × V)), x = .ref a ∧ y = .ref b ∧ H a = some (.ins C dx fs) ∧ H b = some (.ins C dy gs) ∧ sp [.ref a, .ref b] H (fun v H' => ∃ c, v = .bl c ∧ Q (.bl c) H') E
theorem op_eqO {X : Cx} {CX : CXT} {n : Nat} {C f : Addr} {fd : FuncData} {ps : List Str} {sp : Sp} {E : XK} (F : FnOk X.prog X.w X.K X.mg X.base CX n f fd ps sp) (hrm : Room n X.A)
    (hs : PySem.W.findIn X.K (.ref C) "__eq__" = some (some (.ref f))) (hf : PySem.W.isFn X.K (.ref f) = true) (hb : Binds X.K fd ps []) (hx : Passes CX X E) : OpR X (compareOp .Eq) (rEqO C sp E) := by
  intro pins s σ H x y v u Q I rx ry h
  obtain ⟨a, b, dx, dy, fs, gs, rfl, rfl, ha, hb', hsp⟩ := h
  cases (show v = Value.ref a from rx)
  cases (show u = Value.ref b from ry)
  obtain ⟨mA, J, _⟩ := ins_get I.hok ha
  obtain ⟨mB, J', _⟩ := ins_get I.hok hb'
  obtain ⟨od, J, _⟩ := J.look
  obtain ⟨od', J', _⟩ := J'.look
  obtain ⟨m, hF⟩ := I.fr
  refine PySem.W.cmp_K (op := .Eq) (tb := .ref C) hrm.units0 hF I.ok.mod.kin J J'.type (by simp [PySem.W.notFirst]) hs hf ?_
  refine wpAny_mono (run_fn (us := [.ref a, .ref b]) (vs := [.ref a, .ref b]) (dvs := []) (ds := []) F hrm hb .nil hx I (.cons rfl (.cons rfl .nil)) hsp) (fun r s' q => ?_) fun _ _ z => z
  obtain ⟨w, H', I', rw', c, ew, q⟩ := q
  subst ew
  cases rw'
  exact ⟨.bl c, H', I', rfl, q⟩
end L2
namespace LR
open PySem PySem.Spec PyProof.Rows L2 RT
section
variable {prog : Program} {w : World} {A : Around} {s : Shared} {R : Result → Shared → Prop}
theorem extend_rev {it l : Addr} {items : Array Value} (hh : A.handled = none) (hit : s.heap.IsRevIter it l ((items.size : Int) - 1)) (hl : s.heap.IsList l items) (hne : l ≠ it) (S : Addr) (hSi : S ≠ it) (hSl : S ≠ l) (res : Value) (c₀ : Nat)
    (hS : s.heap.get? S = some { cls := .type "list", data := .seq #[] c₀ }) (hn : items.size ≤ sizeLine)
    (hR : ∀ s' acc' c', Moved (S :: [it]) (fun a b => b = a) s s' → s'.heap.get? S = some { cls := .type "list", dict := none, data := .seq acc' c', slots := #[] } → ItemsOf (fun i v => items[items.size - 1 - i]? = some v) acc' items.size → R (.ok (.ret res)) s') :
    wpAny (model prog w) A.in1 (Builtin.List.listExtendWith (.ref S) (.ref it) res)
      (fun fin s' => match fin with | .done f => R (.ok f) s' | .again c' => c'.quiet = true ∧ codeAny (model prog w) A c' R s') (fun e s' => R (.error e) s') s := by
  have W := (Walks.listRev (prog := prog) (w := w) (A := A.in1) hh it l hne items).toS
  have hSf : S ∉ [it, l] := by simp only [List.mem_cons, List.not_mem_nil, or_false, not_or]; exact ⟨hSi, hSl⟩
  have hT : s.TypeIs (.ref it) "list_reverseiterator" := hit.typeIs
  have h1 : Builtin.List.listSameRef (.ref S) (.ref it) = false := by simp [Builtin.List.listSameRef, hSi]
  unfold Builtin.List.listExtendWith
  refine wpAny_bind (wpAny_typeOf hT ?_)
  rw [if_neg (by rw [h1]; decide)]
  refine wpAny_bind (wpAny_pyIter_revIter hit ?_)
  refine wpAny_bind (wpAny_holding ?_)
  unfold Builtin.List.listLengthHint
  refine wpAny_bind (wpAny_specialOf hT nolen_lri ?_)
  show wpAny _ A.in1 (specialOf (Value.ref it) (Str.ofString "__length_hint__") >>= _) _ _ _
  refine wpAny_bind (wpAny_specialOf hT hint_lri ?_)
  generalize hid : ("list_reverseiterator.__length_hint__" : String) = id0
  wp_delta
  rw [show splitId id0 = some ("list_reverseiterator", "__length_hint__") from by subst hid; decide +kernel]
  subst hid
  refine wpAny_bind (wpAny_isInstance (b := true) hT (by rw [isSubtype_type]; kernel_rfl) ?_)
  refine wpAny_pure ?_
  rw [if_neg (by decide)]
  have e0 : ((items.size : Nat) : Int) - 1 - ((0 : Nat) : Int) = (items.size : Int) - 1 := by omega
  refine wpAny_pure ⟨plainId_quiet F.plain_extend_loop _, codeAny_extend_loopS W hn _ hSf _ items.size 0 _ _ _ rfl (Nat.zero_le _) ⟨Nat.zero_le _, by rw [e0]; exact hit, hl⟩ hS (ItemsOf.nil _) fun s' acc' c' hm hS' hacc => ?_⟩
  exact hR s' acc' c' hm hS' hacc
theorem list_init_rev {it l : Addr} {items : Array Value} (hh : A.handled = none) (hit : s.heap.IsRevIter it l ((items.size : Int) - 1)) (hl : s.heap.IsList l items) (hne : l ≠ it) (S : Addr) (hSi : S ≠ it) (hSl : S ≠ l)
    (hS : s.heap.get? S = some { cls := .type "list", data := .seq #[] }) (hn : items.size ≤ sizeLine)
    (hR : ∀ s' acc' c', Moved (S :: [it]) (fun a b => b = a) s s' → s'.heap.get? S = some { cls := .type "list", dict := none, data := .seq acc' c', slots := #[] } → ItemsOf (fun i v => items[items.size - 1 - i]? = some v) acc' items.size → R (.ok (.ret .none)) s') :
    wpAny (model prog w) A.in1 (Builtin.«list.__init__» ⟨[.ref S, .ref it], []⟩)
      (fun fin s' => match fin with | .done f => R (.ok f) s' | .again c' => c'.quiet = true ∧ codeAny (model prog w) A c' R s') (fun e s' => R (.error e) s') s := by
  show wpAny _ A.in1 (do let old ← Builtin.List.listItems (.ref S); Builtin.List.listUpdate (.ref S) (fun _ => #[]); letGo old.toList.reverse; Builtin.List.listExtendWith (.ref S) (.ref it) .none) _ _ s
  refine wpAny_bind ?_
  unfold Builtin.List.listItems
  refine wpAny_bind (wpAny_seqItems hS rfl (wpAny_pure ?_))
  show wpAny _ A.in1 (updateSeq S (fun _ => #[]) >>= fun _ => letGo (#[] : Array Value).toList.reverse >>= fun _ => Builtin.List.listExtendWith (.ref S) (.ref it) .none) _ _ s
  refine wpAny_bind (wpAny_updateSeq hS rfl ?_)
  have hS₂ := Heap.get?_update_self (Obj.mapSeq (fun _ => (#[] : Array Value))) hS rfl
  have oth : ∀ b o, b ≠ S → s.heap.get? b = some o → (s.heap.update S (Obj.mapSeq (fun _ => (#[] : Array Value)))).get? b = some o :=
    fun b o hb e => (Heap.get?_update_other _ _ (Ne.symm hb)).trans e
  refine wpAny_bind (wpAny_letGo ?_)
  refine extend_rev (s := { s with heap := s.heap.update S (Obj.mapSeq (fun _ => (#[] : Array Value))) }) hh (hit.at fun o e => oth it o hSi.symm e) (let ⟨o, e, r⟩ := hl; ⟨o, oth l o hSl.symm e, r⟩) hne S hSi hSl .none _ hS₂ hn fun s' acc' c' hm hS' hacc => ?_
  refine hR s' acc' c' (Moved.trans (fun _ _ _ a b => b.trans a) (Moved.then_heap (wr := S :: [it]) (G := fun a b => b = a) (Moved.refl fun _ => rfl) (Nat.le_refl _) fun b o hb e => oth b o (fun h => hb ?_) e) hm) hS' hacc
  rw [h]
  exact List.mem_cons_self
end
section
variable {prog : Program} {w : World} {A : Around} {E : Value → Shared → Prop} {s : Shared}
theorem call_list_rev {it l : Addr} {items : Array Value} {Q : Value → Shared → Prop} (hh : A.handled = none) (hit : s.heap.IsRevIter it l ((items.size : Int) - 1)) (hl : s.heap.IsList l items) (hne : l ≠ it) (hn : items.size ≤ sizeLine)
    (hQ : ∀ (h' : Heap) (tk : Nat) (acc : Array Value) (c' : Nat), (∀ b o, b ≠ it → s.heap.get? b = some o → h'.get? b = some o) → h'.get? s.heap.objs.size = some { cls := .type "list", dict := none, data := .seq acc c', slots := #[] } →
      ItemsOf (fun i v => items[items.size - 1 - i]? = some v) acc items.size → Q (.ref s.heap.objs.size) { s with heap := h', toks := tk }) :
    wpAny (model prog w) A (call (.type "list") [.ref it]) Q E s := by
  obtain ⟨oi, hoi, _⟩ := id hit
  obtain ⟨ol, hol, _⟩ := id hl
  have hSi : s.heap.objs.size ≠ it := Nat.ne_of_gt (Heap.lt_size hoi)
  have hSl : s.heap.objs.size ≠ l := Nat.ne_of_gt (Heap.lt_size hol)
  refine callType_codes (Q₁ := fun obj s₁ => obj = .ref s.heap.objs.size ∧ s₁ = { s with heap := s.heap.push { cls := .type "list", data := .seq #[] } }) F.called_list (F.typeCall_list_1 _) F.entry_list_init
    (code_list_new _ ⟨rfl, rfl⟩) fun obj s₁ h₁ => ?_
  obtain ⟨rfl, rfl⟩ := h₁
  have hS : (s.heap.push { cls := .type "list", data := .seq #[] }).get? s.heap.objs.size = some { cls := .type "list", data := .seq #[] } := Heap.get?_push_size _ rfl
  refine ⟨⟨_, hS, rfl⟩, F.args_list_init_2 _ _, list_init_rev (s := { s with heap := s.heap.push { cls := .type "list", data := .seq #[] } }) (A := A.in1) hh (hit.at fun o e => Heap.get?_push_of_some _ e) (hl.push _) hne _ hSi hSl hS hn fun s' acc' c' hm hS' hacc => ?_⟩
  refine ⟨rfl, ?_⟩
  rw [Moved.eq_with hm]
  refine hQ s'.heap s'.toks acc' c' (fun b o hb e => hm.heap b o (fun hmem => ?_) (Heap.get?_push_of_some _ e)) hS' hacc
  rcases List.mem_cons.mp hmem with e' | hmem
  · exact absurd (Heap.lt_size e) (by rw [e']; exact Nat.lt_irrefl _)
  · exact hb (List.mem_singleton.mp hmem)
end
/-- list(reversed(x)), x a list: a new list -/
def tListRev (K : PySem.W.Frag) (te : TE) : TE := fun σ H Q => te σ H fun v H1 => ∃ (a : Addr) (xs : List V), v = .ref a ∧ SqL K H1 a xs ∧ ∀ q, H1 q = none → Q (.ref q) (upd H1 q (.lst xs.reverse))
section
variable {X : Cx}
theorem pe_listRev {e : Expr} {te : TE} {p p2 pos pos2 : Pos} (hc : X.calm = true) (hg : Gl X "list") (hm : X.mg "list" = none) (hg2 : Gl X "reversed") (hm2 : X.mg "reversed" = none) (he : PE X e te)
    (hs : starEach [e] X.env = (false, eval e X.env) :: starEach [] X.env := by rfl)
    (hs2 : starEach [.Call (.Name "reversed" p2) [e] [] pos2] X.env = (false, eval (.Call (.Name "reversed" p2) [e] [] pos2) X.env) :: starEach [] X.env := by rfl) :
    PE X (.Call (.Name "list" p) [.Call (.Name "reversed" p2) [e] [] pos2] [] pos) (tListRev X.K te) := by
  refine ⟨fun pins s σ H Q I h => ?_⟩
  refine Call_ (ld_blt I hg hm boot_list (PyProof.Rows.callWith_type1 (args_cons (Call_ (ld_blt I hg2 hm2 PyProof.Rows.boot_reversed (PyProof.Rows.callWith_type1 (args_cons (thn (he.run pins s σ H _ I h) fun u s1 ⟨v, H1, I1, r1, q1⟩ => args_nil ?_) hs) hs rfl))) hs2) hs2 rfl))
  obtain ⟨a, xs, ev, hq, q⟩ := q1
  subst ev
  obtain rfl : u = Value.ref a := r1
  obtain ⟨its, rv, p', hz⟩ := I1.list hq
  refine call_reversed_list p'.isList (args_nil ?_)
  have k0 : ∀ b o, s1.heap.get? b = some o → (s1.heap.push (revObj a ((its.toArray.size : Int) - 1))).get? b = some o := fun b o e => Heap.get?_push_of_some _ e
  have I2 : Inv X pins σ H1 { s1 with heap := s1.heap.push (revObj a ((its.toArray.size : Int) - 1)) } := I1.kept (t' := s1.toks) k0
  obtain ⟨f0, f1, f2, f3, f4, f5⟩ := I1.fpOk (H' := H1) (b := s1.heap.objs.size) (Nat.le_refl _) (I1.hok.fresh (Nat.le_refl _))
  have hl := p'.isList
  obtain ⟨ol, hol, _⟩ := id hl
  have hne : a ≠ s1.heap.objs.size := Nat.ne_of_lt (Heap.lt_size hol)
  have hn : its.toArray.size ≤ sizeLine := by rw [List.size_toArray, ← rv.length]; exact hz
  refine call_list_rev (s := { s1 with heap := s1.heap.push (revObj a ((its.toArray.size : Int) - 1)) }) (I1.ok.hd hc) ⟨_, Heap.get?_push_size _ rfl, rfl, rfl⟩ (hl.push _) hne hn fun h' tk acc c' hk hS' hi => ?_
  have hfp : ∀ b ∈ [s1.heap.objs.size], FpOk X pins H1 b := fun b hb => by
    rw [List.mem_singleton.mp hb]
    exact ⟨f0, f1, f2, f3, f4, f5⟩
  refine ⟨.ref (s1.heap.push (revObj a ((its.toArray.size : Int) - 1))).objs.size, upd H1 _ (.lst xs.reverse), I2.turnedNew (t' := tk) (ch := [s1.heap.objs.size]) (ob := .lst xs.reverse) (fun b o hb e => hk b o (fun z => hb (by rw [z]; exact List.mem_singleton.mpr rfl)) e) hfp (Nat.le_refl _)
    (show ObjOk X.prog X.w _ _ _ (.lst xs.reverse) from ⟨by rw [List.length_reverse]; exact hz, acc.toList, c', vals_rev rv hi, ?_⟩), rfl, q _ (I2.hok.fresh (Nat.le_refl _))⟩
  rw [Array.toArray_toList]
  exact hS'
end
end LR
namespace L2
open PySem PySem.Spec PyProof.Rows
section
variable {X : Cx} {CX : CXT} {k : Nat} {f C : Addr} {fd : FuncData} {ps : List Str} {sp : Sp} {E : St → XK}
theorem pAt {EX : XK} (h : Passes CX X EX) : ∀ σ, PassesAt CX X σ ((fun _ => EX) σ) := fun σ pins H s e s' I hq => h pins σ H s e s' I hq
/-- a call one level below -/
theorem run_fn1 {pins : List (Addr × Obj)} {σ : St} {H : Hp} {s : Shared} {Q : VK} {us : List Value} {vs : List V} (F : FnOk X.prog X.w X.K X.mg X.base CX k f fd ps sp) (hr : Room (k + 1) X.A) (hb : Binds X.K fd ps []) (hx : PassesAt CX X σ (E σ))
    (I : Inv X pins σ H s) (r : Vals vs us) (h : sp vs H Q (E σ)) : wpAny (model X.prog X.w) X.A.in1 (call (.ref f) us) (EP X pins σ Q) X.xe s := by
  have h' : sp (vs ++ []) H Q (E σ) := by rw [List.append_nil]; exact h
  have r2 : Vals (vs ++ []) (us ++ []) := r.append .nil
  have hl : (us ++ []).length = ps.length := by rw [← r2.length]; exact F.len _ _ _ _ h'
  refine wpAny_call (codeAny_mono (F.run X.A.in1 X.stack s H ⟨us, []⟩ (us ++ []) (vs ++ []) Q (E σ) hr.in1 I.env0.in1 (hb s us I.kIn hl) r2 h') fun r s' hq => ?_)
  cases r with
  | error e => exact hx pins H s e s' I hq
  | ok fl =>
    cases fl with
    | ret u => exact I.after hq
    | next => exact False.elim hq
    | brk => exact False.elim hq
    | cont => exact False.elim hq
theorem run_fn0 {pins : List (Addr × Obj)} {σ : St} {H : Hp} {s : Shared} {Q : VK} {us : List Value} {vs : List V} (F : FnOk X.prog X.w X.K X.mg X.base CX k f fd ps sp) (hr : Room k X.A) (hb : Binds X.K fd ps []) (hx : PassesAt CX X σ (E σ))
    (I : Inv X pins σ H s) (r : Vals vs us) (h : sp vs H Q (E σ)) : wpAny (model X.prog X.w) X.A (call (.ref f) us) (EP X pins σ Q) X.xe s :=
  run_fnSD (dvs := []) (ds := []) F hr hb .nil hx I r (by rw [List.append_nil]; exact h)
/-- an own special method: where it is found -/
structure Spec1 (K : PySem.W.Frag) (C : Addr) (m : String) (f : Addr) : Prop where
  at_ : PySem.W.findIn K (.ref C) m = some (some (.ref f))
  fn : PySem.W.isFn K (.ref f) = true
  isf : PySem.W.fnIn K f = true
/-! ### o[e] by the class's own def -/
def tSubO (C : Addr) (sp : Sp) (E : St → XK) (ta tb : TE) : TE := fun σ H Q => ta σ H fun x H1 => tb σ H1 fun y H2 => ∃ a dx fs, x = .ref a ∧ H2 a = some (.ins C dx fs) ∧ sp [.ref a, y] H2 Q (E σ)
theorem pe_subO {a b : Expr} {ta tb : TE} {pos : Pos} (ha : PE X a ta) (hb : PE X b tb) (hs : Spec1 X.K C "__getitem__" f) (F : FnOk X.prog X.w X.K X.mg X.base CX k f fd ps sp) (hr : Room (k + 1) X.A) (hbd : Binds X.K fd ps []) (hx : ∀ σ, PassesAt CX X σ (E σ))
    (hsl : ∀ x i, subscripted b true (.ref x) i = runValue (.builtin "lifetime.subscript" ⟨[.ref x, i], []⟩) := by intro _ _; rfl) : PE X (.Subscript a b pos) (tSubO C sp E ta tb) := by
  refine ⟨fun pins s σ H Q I h => ?_⟩
  refine Subscript_ (binT (R := fun x y H2 => ∃ a dx fs, x = .ref a ∧ H2 a = some (.ins C dx fs) ∧ sp [.ref a, y] H2 Q (E σ)) ha hb I h fun v u s2 x y H2 I2 rx ry q => ?_)
  obtain ⟨o, dx, fs, rfl, ho, hsp⟩ := q
  cases (show v = Value.ref o from rx)
  obtain ⟨mA, J, _⟩ := ins_get I2.hok ho
  obtain ⟨od, J, _⟩ := J.look
  obtain ⟨m, hF⟩ := I2.fr
  exact PySem.W.sub_K hF I2.ok.mod.kin J hs.at_ hs.isf hs.fn (run_fn1 (vs := [.ref o, y]) F hr hbd (hx σ) I2 (.cons rfl (.cons ry .nil)) hsp) (hsl _ _)
/-! ### e in o -/
def rInO (C : Addr) (sp : Sp) (EX : XK) : R2 := fun x y H Q => ∃ (b dx : Addr) (fs : List (Str × V)), y = .ref b ∧ H b = some (.ins C dx fs) ∧ sp [.ref b, x] H (fun v H' => ∃ c, v = .bl c ∧ Q (.bl c) H') EX
theorem op_inO {EX : XK} (hs : Spec1 X.K C "__contains__" f) (F : FnOk X.prog X.w X.K X.mg X.base CX k f fd ps sp) (hr : Room k X.A) (hbd : Binds X.K fd ps []) (hx : Passes CX X EX) : OpR X (compareOp .In) (rInO C sp EX) := by
  intro pins s σ H x y v u Q I rx ry h
  obtain ⟨b, dx, fs, rfl, hb, hsp⟩ := h
  cases (show u = Value.ref b from ry)
  obtain ⟨mA, J, _⟩ := ins_get I.hok hb
  obtain ⟨od, J, _⟩ := J.look
  obtain ⟨m, hF⟩ := I.fr
  refine PySem.W.in_K hF I.ok.mod.kin J hs.at_ hs.fn ?_
  refine wpAny_mono (run_fn0 (vs := [.ref b, x]) (E := fun _ => EX) F hr hbd (pAt hx σ) I (.cons rfl (.cons rx .nil)) hsp) (fun r s' q => ?_) fun _ _ z => z
  obtain ⟨z, H', I', rw', c, ew, q⟩ := q
  subst ew
  cases rw'
  exact wpAny_pure ⟨.bl c, H', I', rfl, q⟩
theorem op_notinO {EX : XK} (hs : Spec1 X.K C "__contains__" f) (F : FnOk X.prog X.w X.K X.mg X.base CX k f fd ps sp) (hr : Room k X.A) (hbd : Binds X.K fd ps []) (hx : Passes CX X EX) : OpR X (compareOp .NotIn) (fun x y H Q => rInO C sp EX x y H fun v H' => ∃ c, v = .bl c ∧ Q (.bl (!c)) H') := by
  intro pins s σ H x y v u Q I rx ry h
  obtain ⟨b, dx, fs, rfl, hb, hsp⟩ := h
  cases (show u = Value.ref b from ry)
  obtain ⟨mA, J, _⟩ := ins_get I.hok hb
  obtain ⟨od, J, _⟩ := J.look
  obtain ⟨m, hF⟩ := I.fr
  refine PySem.W.notIn_K hF I.ok.mod.kin J hs.at_ hs.fn ?_
  refine wpAny_mono (run_fn0 (vs := [.ref b, x]) (E := fun _ => EX) F hr hbd (pAt hx σ) I (.cons rfl (.cons rx .nil)) hsp) (fun r s' q => ?_) fun _ _ z => z
  obtain ⟨z, H', I', rw', c, ew, c', ec, q⟩ := q
  subst ew
  cases rw'
  cases ec
  exact wpAny_pure ⟨.bl (!c), H', I', rfl, q⟩
/-! ### len(o) -/
theorem call_lenO {EX : XK} (hs : Spec1 X.K C "__len__" f) (F : FnOk X.prog X.w X.K X.mg X.base CX k f fd ps sp) (hr : Room (k + 1) X.A) (hbd : Binds X.K fd ps []) (hx : Passes CX X EX) :
    CallR X (.builtin "len") (fun xs H Q => ∃ (a dx : Addr) (fs : List (Str × V)), xs = [.ref a] ∧ H a = some (.ins C dx fs) ∧ sp [.ref a] H (fun v H' => ∃ n : Int, v = .int n ∧ (0 ≤ n ∧ n < 2 ^ 63) ∧ Q (.int n) H') EX) := by
  intro pins s σ H xs us Q I r h
  obtain ⟨a, dx, fs, rfl, ha, hsp⟩ := h
  obtain ⟨u, rfl, rx⟩ := vals1 r
  cases (show u = Value.ref a from rx)
  obtain ⟨mA, J, _⟩ := ins_get I.hok ha
  obtain ⟨od, J, _⟩ := J.look
  obtain ⟨m, hF⟩ := I.fr
  refine PySem.W.len_K hF I.ok.mod.kin J hs.at_ hs.fn ?_
  refine wpAny_mono (run_fn1 (vs := [.ref a]) (E := fun _ => EX) F hr hbd (pAt hx σ) I (.cons rfl .nil) hsp) (fun r s' q => ?_) fun _ _ z => z
  obtain ⟨z, H', I', rw', n, ew, hn, q⟩ := q
  subst ew
  obtain ⟨t, rfl⟩ := (show ∃ t, r = Value.int n t from rw')
  exact ⟨hn, ⟨.int n, H', I'.tok _, ⟨_, rfl⟩, q⟩⟩
/-! ### o | p -/
def tOrO (C : Addr) (sp : Sp) (E : St → XK) (ta tb : TE) : TE := fun σ H Q => ta σ H fun x H1 => tb σ H1 fun y H2 => ∃ a b dx dy fs gs, x = .ref a ∧ y = .ref b ∧ H2 a = some (.ins C dx fs) ∧ H2 b = some (.ins C dy gs) ∧ sp [.ref a, .ref b] H2 (fun v H3 => (∃ c, v = .ref c) ∧ Q v H3) (E σ)
theorem pe_orO {a b : Expr} {ta tb : TE} {pos : Pos} (ha : PE X a ta) (hb : PE X b tb) (hs : Spec1 X.K C "__or__" f) (hc : PySem.W.selfFirst X.K C = true) (F : FnOk X.prog X.w X.K X.mg X.base CX k f fd ps sp) (hr : Room k X.A) (hbd : Binds X.K fd ps []) (hx : ∀ σ, PassesAt CX X σ (E σ)) : PE X (.BinOp a .BitOr b pos) (tOrO C sp E ta tb) := by
  refine ⟨fun pins s σ H Q I h => ?_⟩
  refine wpAny_BinOp (binT (R := fun x y H2 => ∃ a b dx dy fs gs, x = .ref a ∧ y = .ref b ∧ H2 a = some (.ins C dx fs) ∧ H2 b = some (.ins C dy gs) ∧ sp [.ref a, .ref b] H2 (fun v H3 => (∃ c, v = .ref c) ∧ Q v H3) (E σ)) ha hb I h fun v u s2 x y H2 I2 rx ry q => ?_)
  obtain ⟨o, p, dx, dy, fs, gs, rfl, rfl, ho, hp, hsp⟩ := q
  cases (show v = Value.ref o from rx)
  cases (show u = Value.ref p from ry)
  obtain ⟨mA, J, _⟩ := ins_get I2.hok ho
  obtain ⟨mB, J', _⟩ := ins_get I2.hok hp
  obtain ⟨od, J, _⟩ := J.look
  obtain ⟨od', J', _⟩ := J'.look
  obtain ⟨m, hF⟩ := I2.fr
  refine PySem.W.binop_K (op := .BitOr) hF I2.ok.mod.kin J J'.type hc hs.at_ hs.fn ?_
  refine wpAny_mono (run_fn0 (vs := [.ref o, .ref p]) F hr hbd (hx σ) I2 (.cons rfl (.cons rfl .nil)) hsp) (fun r s' q => ?_) fun _ _ z => z
  obtain ⟨z, H', I', rw', ⟨c, ew⟩, q⟩ := q
  subst ew
  cases (show r = Value.ref c from rw')
  exact ⟨.ref c, H', I', rfl, q⟩
end
end L2
namespace L2
open PySem PySem.Spec PyProof.Rows
/-! ### d.setdefault(t, x), t a tuple -/
def rSetDefT : V → List V → Hp → VK → Prop := fun x xs H Q => ∃ (a : Addr) (kvs : List (List L2.Key × V)) (k : List L2.Key) (b : Addr) (d : V), x = .ref a ∧ xs = [.ref b, d] ∧ H a = some (.dT kvs) ∧ H b = some (.tup (k.map kV)) ∧ kvs.length < sizeLine ∧
  (∀ v, valV kvs k = some v → Q v H) ∧ (valV kvs k = none → Q d (upd H a (.dT (putK kvs k d))))
theorem mt_setdefT {X : Cx} (hu : X.A.units + 1 < cLine) : MtR X "dict.setdefault" rSetDefT := by
  intro pins s σ H x xs v us Q I rx rxs h
  obtain ⟨a, kvs, k, b, d, rfl, rfl, ha, hb, hl, q1, q2⟩ := h
  cases rx
  obtain ⟨u1, u2, rfl, r1, r2⟩ := vals2 rxs
  cases r1
  obtain ⟨z, hd, xs', rel, dd⟩ := dt_of I.hok ha
  have hz : xs'.length ≤ sizeLine := by rw [← Paired.length rel]; exact z
  have le : (putK kvs k d).length ≤ sizeLine := by have := length_putK kvs k d; omega
  refine call_setdefault_heap (knd := tupleKind (mixKind X.prog X.w)) (k := k) (tupleKind_room_in1 hu) (key_of I.hok hb) hd dd (fun p hp => ?_) (fun hn h' dd' same => ?_) hz
  · have r := rel.val k
    rw [hp] at r
    cases ev : valV kvs k with
    | none =>
      rw [ev] at r
      exact (show False from r).elim
    | some v0 =>
      rw [ev] at r
      exact ⟨v0, H, I.tok _, r, q1 v0 ev⟩
  · have r := rel.val k
    rw [hn] at r
    have e : valV kvs k = none := by
      cases ev : valV kvs k with
      | none => rfl
      | some v0 =>
        rw [ev] at r
        exact (show False from r).elim
    obtain ⟨q, es, ep, e1, e2, e3, e4, _, e5⟩ := dd'
    refine ⟨d, upd H a (.dT (putK kvs k d)), d_write I (by rw [ha]; exact True.intro) same ⟨q, e1⟩ ⟨le, hd, _, (rel.put k hb r2).keeps fun c ys ec => ?_, q, es, ep, e1, e2, e3, e4, by first | exact e5 | assumption⟩, r2, q2 e⟩
    rw [upd_ne (ne_of ec ha (fun z => nomatch z))]
    exact ec
end L2
namespace L2
open PySem PySem.Spec PyProof.Rows
/-! ### several dicts locked at once -/
def tLockNE (t : TE) : Nat → TE
  | 0 => t
  | n + 1 => tLockE (tLockNE t n)
theorem pe_lockN {X : Cx} {e : Expr} {t : TE} (h : PE X e t) : ∀ n, PE X e (tLockNE t n)
  | 0 => h
  | n + 1 => pe_lock (pe_lockN h n)
def tLocksE (t : TE) : TE := fun σ H Q => ∃ n, tLockNE t n σ H Q
theorem pe_locks {X : Cx} {e : Expr} {t : TE} (h : PE X e t) : PE X e (tLocksE t) := ⟨fun pins s σ H Q I ⟨n, hn⟩ => (pe_lockN h n).run pins s σ H Q I hn⟩
def tLockN (t : TS) : Nat → TS
  | 0 => t
  | n + 1 => tLock (tLockN t n)
theorem ps_lockN {X : Cx} {st : Stmt} {t : TS} (h : PS X st t) : ∀ n, PS X st (tLockN t n)
  | 0 => h
  | n + 1 => ps_lock (ps_lockN h n)
def tLocks (t : TS) : TS := fun D σ H => ∃ n, tLockN t n D σ H
theorem ps_locks {X : Cx} {st : Stmt} {t : TS} (h : PS X st t) : PS X st (tLocks t) := ⟨fun pins s σ H D I ⟨n, hn⟩ => (ps_lockN h n).run pins s σ H D I hn⟩
end L2
namespace L2
open PySem PySem.Spec PyProof.Rows
/-- a statement's value; a comprehension's scope -/
def stVal : Stmt → Expr
  | .Assign _ v _ => v
  | .Return (some v) _ => v
  | _ => .Name "" ⟨0, 0, 0, 0⟩
def cmpSc (d : Scope) : Expr → Scope
  | .ListComp _ _ s _ => s
  | .DictComp _ _ _ s _ => s
  | _ => d
/-! ### a dict that nobody else writes is locked for good -/
def tFrz (t : TE) : TE := fun σ H Q => t σ H fun x H1 => ∃ d u, x = .ref d ∧ H1 d = some u ∧ Mut (some u) ∧ ∀ od, Q (.ref d) (upd H1 d (.frz od u))
theorem pe_frz {X : Cx} {e : Expr} {t : TE} (h : PE X e t) : PE X e (tFrz t) := by
  refine ⟨fun pins s σ H Q I hw => ?_⟩
  refine thn (h.run pins s σ H _ I hw) fun v s1 ⟨x, H1, I1, r, d, u, ex, hd, mu, q⟩ => ?_
  subst ex
  obtain ⟨od, I2⟩ := I1.lock hd mu
  exact ⟨.ref d, _, I2, r, q od⟩
end L2
namespace L2
open PySem PySem.Spec PyProof.Rows
/-- within a comprehension the reading must not speak of the block's own context -/
theorem pi_listK {X : Cx} {tg l : Expr} {tl : TE} {K : PySem.W.Frag} (e : X.K = K) (hl : PE X l tl) : PI X tg l (iList K tl) := by
  subst e
  exact pi_list hl
theorem pg_tupK {X : Cx} {es : List Expr} {k : Nat} {pos : Pos} {t : TGs} {K : PySem.W.Frag} (n : Nat) (hc : X.calm = true) (e : X.K = K) (h : PGs X es t)
    (hn : (assignEach es X.env).length = n := by rfl) (hst : (assignEach es X.env).findIdx? (·.1) = none := by rfl) : PG X (.Tuple es k pos) (gTup K n t) := by
  subst e
  exact pg_tup hc h hn hst
theorem pi_tupK {X : Cx} {tg l : Expr} {tl : TE} {K : PySem.W.Frag} (e : X.K = K) (hl : PE X l tl) : PI X tg l (iTup K tl) := by
  subst e
  exact pi_tup hl
/-- tuple(list), tuple(tuple), told without the block -/
def rTupS (K : PySem.W.Frag) : List V → Hp → VK → Prop := fun xs H Q => ∃ p ys, xs = [.ref p] ∧ ((SqL K H p ys ∧ ∀ l, H l = none → Q (.ref l) (upd H l (.tup ys))) ∨ (SqT K H p ys ∧ Q (.ref p) H))
end L2
namespace L2
open PySem PySem.Spec PyProof.Rows
/-! ### == of dicts whose keys are tuples, and of dicts that hold such dicts -/
section
open PySem.W PySem.SeqAt
variable {prog : Program} {w : World} {κ : Type} [DecidableEq κ] {knd : HeapKind prog w κ} {A : Around} {E : Value → Shared → Prop} {s : Shared}
def pairH (x : κ × Addr × Value) : κ × Value := (x.1, x.2.2)
theorem valH (xs : List (κ × Addr × Value)) (k : κ) : valueAt (xs.map pairH) k = (atKey xs k).map (·.2) := by
  unfold valueAt atKey
  rw [List.find?_map]
  show ((xs.find? fun x => decide (x.1 = k)).map pairH).map (·.2) = _
  cases xs.find? (fun x => decide (x.1 = k)) <;> rfl
/-- what is left of the first dict's pairs, from the j-th on -/
def RestH (kb : List (κ × Addr × Value)) (ka : List (κ × Addr × Value)) (many : Nat) (out : Bool) (A : Around) (s : Shared) (todo : List Nat) : Prop :=
  ∃ j, todo = List.range' j (many - j) ∧ j ≤ many ∧ KeqHitsIn prog w A s (kb.map pairH) ((ka.drop j).map pairH) out
theorem range_step {x j many : Nat} {todo : List Nat} (h : x :: todo = List.range' j (many - j)) : j < many ∧ x = j ∧ todo = List.range' (j + 1) (many - (j + 1)) := by
  cases d : many - j with
  | zero =>
    rw [d] at h
    exact nomatch h
  | succ z =>
    rw [d, List.range'_succ] at h
    obtain ⟨h1, h2⟩ := List.cons.inj h
    exact ⟨by omega, h1, by rw [h2]; congr 1; omega⟩
theorem range_done {j many : Nat} (h : ([] : List Nat) = List.range' j (many - j)) (hj : j ≤ many) : j = many := by
  cases d : many - j with
  | zero => omega
  | succ z =>
    rw [d, List.range'_succ] at h
    exact nomatch h
theorem samePairsH {nm : String} {a b : Addr} {ka kb : List (κ × Addr × Value)} {r : Bool} {Q : Bool → Shared → Prop} (ha : (a == sysModules) = false) (hb : (b == sysModules) = false)
    (da : s.heap.DictOfH knd a ka) (db : s.heap.DictOfH knd b kb) (hu : knd.room A) (hits : ka.length = kb.length → KeqHitsIn prog w A s (kb.map pairH) (ka.map pairH) r) (h : Q (ka.length == kb.length && r) s) :
    wpAny (model prog w) A (Builtin.Dict.samePairs nm a b) Q E s := by
  obtain ⟨o1, tab1, c1, look1, _, dat1, lay1, key1, _⟩ := da
  obtain ⟨o2, tab2, c2, look2, _, dat2, lay2, key2, dif2⟩ := db
  have z1 := size_of_entries lay1
  have z2 := size_of_entries lay2
  have n1 : ¬ (a == sysModules) = true := by simp [ha]
  have n2 : ¬ (b == sysModules) = true := by simp [hb]
  unfold Builtin.Dict.samePairs Builtin.Dict.showsAll
  rw [if_neg n1, if_neg n2]
  refine wpAny_bind <| wpAny_pure <| wpAny_bind <| wpAny_pure <| wpAny_bind <| wpAny_dictEntries look1 dat1 ?_
  dsimp only
  refine wpAny_bind <| wpAny_dictEntries look2 dat2 ?_
  by_cases same : tab1.size = tab2.size
  · have q0 : Q r s := by
      have e : (ka.length == kb.length) = true := by rw [beq_iff_eq]; omega
      rw [e, Bool.true_and] at h
      exact h
    rw [if_neg (by simp [same])]
    refine wpAny_bind <| wpAny_dictEpoch look1 dat1 <| wpAny_bind ?_
    rw [Std.Legacy.Range.forIn_eq_forIn_range']
    simp only [Std.Legacy.Range.size, Nat.sub_zero, Nat.add_sub_cancel, Nat.div_one]
    refine wpAny_forIn_list _ (fun todo st s' => s' = s ∧ st = (none, ()) ∧ RestH (prog := prog) (w := w) kb ka tab1.size r A s todo) _ (fun x todo st s' hp => ?_) (fun st s' hp => ?_) _ _ ⟨rfl, rfl, 0, by simp, Nat.zero_le _, hits (by omega)⟩
    · obtain ⟨rfl, rfl, j, hj, _, rest⟩ := hp
      obtain ⟨lt, rfl, hj2⟩ := range_step hj
      have lt' : x < ka.length := by omega
      refine wpAny_bind <| wpAny_dictEntries look1 dat1 ?_
      have at1 : tab1[x]? = some (entryOfKey knd ka[x]) := by rw [entry_at lay1 x, List.getElem?_eq_getElem lt']; rfl
      rw [at1]
      have kx := key1 _ (List.getElem_mem lt')
      rw [List.drop_eq_getElem_cons lt', List.map_cons] at rest
      show wpAny _ _ (holding [Value.ref ka[x].2.1, ka[x].2.2] _ >>= _) _ _ _
      refine wpAny_bind <| wpAny_holding <| wpAny_bind <| wpAny_dictFind_heap hu kx look2 dat2 lay2 key2 dif2 (fun miss => ?_) (fun i p hit => ?_)
      · have hv : valueAt (kb.map pairH) ka[x].1 = none := by rw [valH, atKey_none_of_get miss]; rfl
        obtain ⟨_, rfl⟩ | ⟨y, _, _, hy, _⟩ := rest.inv
        · exact wpAny_pure (by rw [if_pos (by decide)]; exact wpAny_pure (wpAny_pure q0))
        · exact nomatch hv.symm.trans hy
      · have hv : valueAt (kb.map pairH) ka[x].1 = some p.2 := by rw [valH, atKey_of_get dif2 hit]; rfl
        refine wpAny_bind <| wpAny_dictEntries look2 dat2 ?_
        rw [entry_at lay2 i, hit]
        obtain ⟨hn, _⟩ | ⟨y, t, u, hy, heq, more, rfl⟩ := rest.inv
        · exact nomatch hn.symm.trans hv
        · cases hv.symm.trans hy
          refine wpAny_holding (heq _ _ ?_)
          cases t with
          | false =>
            rw [if_pos (by decide)]
            exact wpAny_pure (wpAny_pure q0)
          | true =>
            rw [if_neg (by decide)]
            refine wpAny_bind <| wpAny_dictEpoch look1 dat1 ?_
            rw [if_neg (by simp)]
            exact wpAny_pure ⟨rfl, rfl, x + 1, hj2, lt, more⟩
    · obtain ⟨rfl, rfl, j, hj, le, rest⟩ := hp
      have := range_done hj le
      rw [this, z1, List.drop_length] at rest
      cases rest
      exact wpAny_pure q0
  · have e : (ka.length == kb.length) = false := by rw [beq_eq_false_iff_ne]; omega
    rw [e, Bool.false_and] at h
    rw [if_pos (by simp [same])]
    exact wpAny_bind (wpAny_rule (wpAny_pure h))
theorem rcH_dicts {a b : Addr} {ka kb : List (κ × Addr × Value)} {r : Bool} {Q : Value → Shared → Prop} (ha : (a == sysModules) = false) (hb : (b == sysModules) = false)
    (da : s.heap.DictOfH knd a ka) (db : s.heap.DictOfH knd b kb) (hr : knd.room A.in1) (hu : A.units < cLine) (hits : ka.length = kb.length → KeqHitsIn prog w A.in1 s (kb.map pairH) (ka.map pairH) r) (h : Q (.bool (ka.length == kb.length && r)) s) : wpAny (model prog w) A (richCompare .Eq (.ref a) (.ref b)) Q E s := by
  have told : wpAny (model prog w) A.in1 (Builtin.Dict.samePairs "dict.__eq__" a b) (fun c s' => c = (ka.length == kb.length && r) ∧ s' = s) E s := samePairsH ha hb da db hr hits ⟨rfl, rfl⟩
  have ta := da.typeIs
  have tb := db.typeIs
  refine wpAny_richCompare_same_room (op := .Eq) ta tb PySem.F.slot_dict_eq (wpAny_call_entry PySem.F.slot_dict_eq ta PySem.F.entry_dict_eq (s := s) ?_ (PySem.F.args_dict_eq_2 _ _)) hu
  show wpAny _ _ (Builtin.Dict.dictSlotArgs "__eq__" ⟨[.ref a, .ref b], []⟩ >>= _) _ _ s
  unfold Builtin.Dict.dictSlotArgs
  refine wpAny_bind <| wpAny_bind <| wpAny_notOrdered_dict ta <| wpAny_pure <| wpAny_bind <| wpAny_isInstance (T := "dict") tb PySem.F.sub_dict_dict ?_
  simp only [Bool.not_true, Bool.false_eq_true, if_false]
  refine wpAny_bind <| wpAny_pure <| wpAny_bind <| wpAny_pure <| wpAny_bind <| wpAny_mono told (fun c s' e => ?_) fun _ _ z => z
  obtain ⟨rfl, rfl⟩ := e
  exact wpAny_pure ⟨_, rfl, (fun x => nomatch x), by simpa using h⟩
end
abbrev KRow := List Key
def rowsV (us : List KRow) : List (KRow × V) := us.map fun k => (k, V.bl true)
def hasR (ls : List KRow) (u : KRow) : Bool := ls.any fun k => decide (k = u)
theorem hasR_iff {ls : List KRow} {u : KRow} : hasR ls u = true ↔ u ∈ ls := by
  unfold hasR
  rw [List.any_eq_true]
  constructor
  · rintro ⟨x, hx, e⟩
    rw [← of_decide_eq_true e]
    exact hx
  · exact fun h => ⟨u, h, decide_eq_true rfl⟩
theorem hasR_no {ls : List KRow} {u : KRow} (h : u ∉ ls) : hasR ls u = false := by
  cases e : hasR ls u with
  | false => rfl
  | true => exact absurd (hasR_iff.mp e) h
def sameRows (us ls : List KRow) : Bool := us.length == ls.length && us.all fun k => hasR ls k
def rowsIn (H : Hp) (v : V) (us : List KRow) : Prop := ∃ q, v = .ref q ∧ H q = some (.dT (rowsV us))
theorem rowsV_inj {us ls : List KRow} (h : rowsV us = rowsV ls) : us = ls := by
  have := congrArg (List.map Prod.fst) h
  unfold rowsV at this
  rw [List.map_map, List.map_map] at this
  have e : ∀ l : List KRow, l.map ((fun x => x.1) ∘ fun k => (k, V.bl true)) = l := fun l => List.map_id l
  exact (e us).symm.trans (this.trans (e ls))
theorem sameRows_self (us : List KRow) : sameRows us us = true := by
  unfold sameRows
  rw [Bool.and_eq_true, List.all_eq_true]
  exact ⟨by simp, fun k hk => hasR_iff.mpr hk⟩
section
variable {X : Cx}
theorem hitsR {pw : Program} {w : World} {H : Hp} {A : Around} {s : Shared} {ls : List KRow} {kb : List (KRow × Addr × Value)} (rb : KT H (rowsV ls) kb) : ∀ {us : List KRow} {ka : List (KRow × Addr × Value)}, KT H (rowsV us) ka → PySem.W.KeqHitsIn pw w A s (kb.map pairH) (ka.map pairH) (us.all fun k => hasR ls k)
  | [], _, r => by cases r; exact .nil
  | u :: us, _, r => by
    cases r with
    | @cons _ q _ qs h t =>
      obtain ⟨h1, h2, h3⟩ := h
      have ih := hitsR (s := s) (A := A) (pw := pw) (w := w) rb t
      rw [List.all_cons, List.map_cons]
      have hv := rb.val u
      by_cases hm : u ∈ ls
      · rw [hasR_iff.mpr hm]
        have e1 : valV (rowsV ls) u = some (.bl true) := by
          clear hv ih rb
          unfold rowsV
          induction ls with
          | nil => cases hm
          | cons x xs ih =>
            rw [List.map_cons]
            by_cases e : x = u
            · unfold valV
              simp [e]
            · rcases List.mem_cons.mp hm with z | z
              · exact absurd z.symm e
              · have := ih z
                unfold valV at this ⊢
                rw [List.find?_cons_of_neg (by simp [e])]
                exact this
        rw [e1] at hv
        obtain ⟨y, hy, ry⟩ := hv.some_of
        refine .hit (v := q.2.2) (k := q.1) (y := y) (by rw [valH, ← h1]; exact hy) ?_ ih
        exact (eqAt_sameB h3 ry rfl).inModel _ _
      · rw [hasR_no hm, Bool.false_and]
        have e1 : valV (rowsV ls) u = none := by
          unfold valV
          rw [Option.map_eq_none_iff, List.find?_eq_none]
          intro x hx e
          obtain ⟨z, hz, rfl⟩ := List.mem_map.mp hx
          exact hm (by rw [← (show z = u from of_decide_eq_true e)]; exact hz)
        rw [e1] at hv
        have hn : (atKey kb u).map (·.2) = none := by
          cases e2 : (atKey kb u).map (·.2) with
          | none => rfl
          | some _ => rw [e2] at hv; exact (show False from hv).elim
        exact .miss (v := q.2.2) (k := q.1) (by rw [valH, ← h1]; exact hn)
theorem eqIn_rows {pins : List (Addr × Obj)} {σ : L2.St} {H : Hp} {s : Shared} {A : Around} (I : Inv X pins σ H s) (hu : A.units + 2 < cLine) {q q' : Addr} {us ls : List KRow} (h1 : H q = some (.dT (rowsV us))) (h2 : H q' = some (.dT (rowsV ls))) : PySem.SeqAt.EqIn X.prog X.w A s (.ref q) (.ref q') (sameRows us ls) := by
  by_cases e : q = q'
  · subst e
    rw [h1] at h2
    have : us = ls := rowsV_inj (HO.dT.inj (Option.some.inj h2))
    subst this
    rw [sameRows_self]
    exact (SeqAt.EqAt.same _).inModel _ _
  · obtain ⟨_, ya, va, ra, da⟩ := dt_of I.hok h1
    obtain ⟨_, yb, vb, rb, db⟩ := dt_of I.hok h2
    have la : va.length = us.length := by rw [← Paired.length ra]; unfold rowsV; rw [List.length_map]
    have lb : vb.length = ls.length := by rw [← Paired.length rb]; unfold rowsV; rw [List.length_map]
    refine PySem.SeqAt.EqIn.of_refs e fun E Q hq => rcH_dicts ya yb da db (show A.units + 1 < cLine by omega) (by omega) (fun _ => hitsR rb ra) ?_
    rw [la, lb]
    exact hq
def eqRR (D : V → List KRow) (ks ls : List (Key × V)) : Bool := (ks.length == ls.length) && ks.all fun p => match valV ls p.1 with
  | none => false
  | some v => sameRows (D p.2) (D v)
theorem hitsRR {pins : List (Addr × Obj)} {σ : L2.St} {H : Hp} {s : Shared} {A : Around} (I : Inv X pins σ H s) (hu : A.units + 2 < cLine) (D : V → List KRow) {ls : List (Key × V)} {vb : List (Key × Value)} (rb : KV ls vb) (hb : ∀ p ∈ ls, rowsIn H p.2 (D p.2)) {ks : List (Key × V)} {va : List (Key × Value)} (ra : KV ks va) :
    (∀ p ∈ ks, rowsIn H p.2 (D p.2)) → PySem.W.KeqHitsIn X.prog X.w A s vb va (ks.all fun p => match valV ls p.1 with
      | none => false
      | some v => sameRows (D p.2) (D v)) := by
  unfold KV at ra
  induction ra with
  | nil => intro _; exact .nil
  | @cons p q ps qs h t ih =>
    intro hp
    obtain ⟨h1, h2⟩ := h
    obtain ⟨k, v⟩ := q
    have h1' : p.1 = k := h1
    have rr := rb.val p.1
    have ih' := ih fun p' hm => hp p' (List.mem_cons_of_mem _ hm)
    rw [List.all_cons]
    cases e : valV ls p.1 with
    | none =>
      rw [e] at rr
      have hn : valueAt vb p.1 = none := by
        cases e2 : valueAt vb p.1 with
        | none => rfl
        | some _ => rw [e2] at rr; exact (show False from rr).elim
      rw [h1'] at hn
      exact .miss hn
    | some y =>
      rw [e] at rr
      obtain ⟨u, hy, ry⟩ := rr.some_of
      rw [h1'] at hy
      have hy2 : ∃ q ∈ ls, q.2 = y := by
        unfold valV at e
        cases e3 : ls.find? fun kv => decide (kv.1 = p.1) with
        | none => rw [e3] at e; cases e
        | some q => rw [e3] at e; exact ⟨q, List.mem_of_find?_eq_some e3, Option.some.inj e⟩
      obtain ⟨z, hz, rfl⟩ := hy2
      obtain ⟨q1, e1, g1⟩ := hp p List.mem_cons_self
      obtain ⟨q2, e2, g2⟩ := hb z hz
      have r1 : v = Value.ref q1 := by
        have : RelV p.2 v := h2
        rw [e1] at this
        exact this
      have r2 : u = Value.ref q2 := by
        rw [e2] at ry
        exact ry
      rw [r2] at hy
      have hh := eqIn_rows I hu g1 g2
      rw [← r1] at hh
      exact .hit hy hh ih'
def rEqRR : R2 := fun x y H Q => ∃ (a b : Addr) (ks ls : List (Key × V)) (D : V → List KRow), x = .ref a ∧ y = .ref b ∧ H a = some (.dK ks) ∧ H b = some (.dK ls) ∧ (∀ p ∈ ks, rowsIn H p.2 (D p.2)) ∧ (∀ p ∈ ls, rowsIn H p.2 (D p.2)) ∧ Q (.bl (eqRR D ks ls)) H
theorem op_eqRR {X : Cx} (hu : X.A.units + 65 < cLine) : OpR X (compareOp .Eq) rEqRR := by
  intro pins s σ H x y v u Q I rx ry h
  obtain ⟨a, b, ks, ls, D, rfl, rfl, ea, eb, ha, hb, q⟩ := h
  obtain rfl : v = Value.ref a := rx
  obtain rfl : u = Value.ref b := ry
  obtain ⟨_, ya, va, ra, da⟩ := (show ObjOk X.prog X.w H s.heap a (.dK ks) from I.hok a _ ea)
  obtain ⟨_, yb, vb, rb, db⟩ := (show ObjOk X.prog X.w H s.heap b (.dK ls) from I.hok b _ eb)
  refine PySem.W.keq_eqIn (knd := mixKind X.prog X.w) ya yb da db (by omega) (fun _ => hitsRR I (by show X.A.units + 1 + 2 < cLine; omega) D rb hb ra ha) (fin_bl I q ?_)
  unfold eqRR
  rw [ra.length, rb.length]
end
end L2
namespace TM
open PySem PySem.Spec PyProof.Rows L2
/-! ### try with several clauses 'except C as n' -/
/-- behind a clause the slot of its name is bare again -/
def gone (D : Ends) (i : Nat) : Ends := ⟨fun σ H => D.nx (σ.set i none) H, D.rt, fun σ H => D.bk (σ.set i none) H, fun σ H => D.ct (σ.set i none) H⟩
abbrev Clause := Value × Nat × (Addr → Value → Option Addr → TS)
/-- what the clauses wish of an exception, one after the other -/
def wish (K : PySem.W.Frag) (Wout : WX) (D : Ends) : List Clause → WX
  | [] => Wout
  | q :: rest => fun cls d σ H => ∃ b, PySem.W.exmOne K cls q.1 = some b ∧ (b = true → ∀ a, H a = none → q.2.2 a cls d (gone D q.2.1) (σ.set q.2.1 (some (.ref a))) H) ∧ (b = false → wish K Wout D rest cls d σ H)
inductive Clauses (X : Cx) : List ExceptHandler → List Clause → Prop
  | nil : Clauses X [] []
  | cons {x n : Str} {c : Value} {i : Nat} {ts : Addr → Value → Option Addr → TS} {b₀ : Stmt} {suite : List Stmt} {np cpos : Pos} {more : List ExceptHandler} {l : List Clause} (at_ : X.N[i]? = some n) (loc : X.env.kindOf n = some .local) (hc : Names X x c)
      (body : ∀ (a : Addr) (oe : Obj) (cls : Value) (d : Option Addr) (pn : List (Addr × Obj)), Zc cls d oe → (∃ vs, oe.data = .fields vs) → PSs (X.suite a ((a, oe) :: pn)) (b₀ :: suite) (ts a cls d)) (rest : Clauses X more l) :
      Clauses X (.ExceptHandler (some (.Name x np)) (some n) (b₀ :: suite) cpos :: more) ((c, i, ts) :: l)
theorem Clauses.one {X : Cx} {x n : Str} {c : Value} {i : Nat} {ts : Addr → Value → Option Addr → TS} {b₀ : Stmt} {suite : List Stmt} {np cpos : Pos} {more : List ExceptHandler} {l : List Clause} (rest : Clauses X more l) (at_ : X.N[i]? = some n) (loc : X.env.kindOf n = some .local) (hc : Names X x c)
    (body : ∀ (a : Addr) (oe : Obj) (cls : Value) (d : Option Addr) (pn : List (Addr × Obj)), Zc cls d oe → (∃ vs, oe.data = .fields vs) → PSs (X.suite a ((a, oe) :: pn)) (b₀ :: suite) (ts a cls d)) : Clauses X (.ExceptHandler (some (.Name x np)) (some n) (b₀ :: suite) cpos :: more) ((c, i, ts) :: l) := .cons at_ loc hc body rest
section
variable {X : Cx}
theorem ps_try_clauses {body : List Stmt} {h₀ : ExceptHandler} {hds : List ExceptHandler} {l : List Clause} {pos : Pos} {tb : WX → TS} {Wout : WX} (hs : X.stack = X.env :: X.outer) (hf : X.env.frame = some X.env.locals) (hN : X.N.Nodup) (tk : Takes X Wout)
    (hh : Clauses X (h₀ :: hds) l)
    (hb : ∀ (W : WX) (pn : List (Addr × Obj)) (xe : Value → Shared → Prop), Takes (X.tr pn xe) W → PassesOwn (model X.prog X.w) X.A X.env xe → PSs (X.tr pn xe) body (tb W)) :
    PS X (.Try body (h₀ :: hds) [] [] pos) (fun D σ H => tb (wish X.K Wout D l) D σ H) := by
  refine ⟨fun pins s σ H D I want => ?_⟩
  have iok := I.ok
  have frames : X.A.frames = some (X.env :: X.outer) := iok.frames.trans (by rw [hs])
  refine wpAny_Try_except (wpAny_mono ((hb (wish X.K Wout D l) (X.pn ++ pins) (fun e z₁ => wpAny (model X.prog X.w) X.A (noteFrame e X.env) (fun _ z₂ => wpAny (model X.prog X.w) X.A (setFlight e none) (fun _ z₃ =>
    wpAny (model X.prog X.w) X.A (handleBy e X.env (h₀ :: hds)) (SP X pins D) X.xe z₃) X.xe z₂) X.xe z₁) (fun thrown t caught => ?_) PassesOwn.looking).run [] s σ H D (I.toTry _) want) (fun out t fine => ?_) fun _ _ z => z)
  · obtain ⟨a, B, t0, pins', σ', H', cls, d, rfl, inv0, nb, up0, air, na, os, ag, wished⟩ := caught
    have inv : Inv X pins σ' H' t0 := inv0.ofTry iok
    rw [hs] at air
    show wpAny (model X.prog X.w) X.A (noteFrame (.ref a) X.env) _ _ _
    refine Sky.land Zc.steady frames hf air fun g fl upg => ?_
    have invg : Inv X pins σ' H' { t with heap := g } := inv.landed nb fl.1 (up0.trans upg) os ag
    obtain ⟨oe, us, oeg, zc, dat⟩ := fl.there
    have apart : a ∉ frs (X.env :: X.outer) := fun hm => by
      obtain ⟨_, o2, o2g, no⟩ := fl.2.2.1.mem hm
      cases oeg.symm.trans o2g
      exact no _ dat
    have out : ∀ e ∈ X.env :: X.outer, ∀ q, e.frame = some q → a ≠ q := fun e he q hq z => apart (List.mem_filterMap.mpr ⟨e, he, by rw [hq, z]⟩)
    have nloc : a ≠ X.env.locals := out _ List.mem_cons_self _ hf
    have nfs : a ∉ X.fs := fun hm => by
      obtain ⟨e, he, q⟩ := List.mem_filterMap.mp hm
      exact out e (List.mem_cons_of_mem _ he) a q rfl
    have su := invg.suite oeg dat na nloc nfs
    suffices go : ∀ {hd : List ExceptHandler} {cl : List Clause}, Clauses X hd cl → wish X.K Wout D cl cls d σ' H' → wpAny (model X.prog X.w) X.A (handleBy (.ref a) X.env hd) (SP X pins D) X.xe { t with heap := g } from go hh wished
    intro hd cl ok
    induction ok with
    | nil =>
      intro want
      refine wpAny_handleBy_nil ?_
      obtain ⟨_, _, _, oe', us', T, _, _, oeg', _, dat', first', _⟩ := id fl
      unfold PySem.passOn
      refine wpAny_bind (wpAny_field oeg' dat' first' ?_)
      have isT : ¬ ((Value.ref T == Value.none) = true) := by simp
      rw [if_neg isT]
      have thrown : wpAny (model X.prog X.w) X.A (setFlight (.ref a) X.env.frame) (fun _ z => wpAny (model X.prog X.w) X.A (throw (.ref a) : Sem Flow) (SP X pins D) X.xe z) X.xe { t with heap := g } := by
        rw [hf]
        exact HandSPX.setFlight_upZ fl fun g4 air4 up4 => wpAny_throw (tk _ _ ⟨a, B, t0, pins, σ', H', cls, d, rfl, inv, nb, (up0.trans upg).trans up4, .inr (.inr (by rw [hs]; exact air4)), na, os, ag, want⟩)
      first
        | exact wpAny_bind (wpAny_pure (wpAny_bind thrown))
        | exact wpAny_bind thrown
    | @cons x n c i ts b₀ suite np cpos more rest' at_ loc hc bodyOk rest ih =>
      intro want
      obtain ⟨b, told, yes, no⟩ := want
      refine wpAny_handleBy_cons (codeAny_handlers_test ?_) (by intro q; cases q)
      have look : PySem.W.Looks (model X.prog X.w) g (typeOf (.ref a)) cls := fun A Q E s k q => wpAny_typeOf_ref (k _ _ oeg) (by rw [zc.1]; exact q)
      have asked := PySem.W.exm_one (M := model X.prog X.w) invg.kIn look told
      have named : ∀ {Q : Value → Shared → Prop} {E : Value → Shared → Prop}, Q c { t with heap := g } → wpAny (model X.prog X.w) (X.A.mark (some (.ref a))) (eval (.Name x np) X.env) Q E { t with heap := g } := fun {Q E} q => by
        obtain ⟨hg, dbg, hm | ⟨hm, hv, nn⟩⟩ := hc
        · exact ld_glob (X := X.suite a ((a, oe) :: (X.pn ++ pins))) su hg hm q dbg
        · exact ld_blt (X := X.suite a ((a, oe) :: (X.pn ++ pins))) su hg hm hv q nn dbg
      refine named (asked.here ?_)
      cases b with
      | false => exact ih (no rfl)
      | true =>
        refine codeAny_handlers_suite_as (HandSPX.lands_againZ fl fun g4 fl4 up4 => ?_)
        have inv4 : Inv X pins σ' H' { t with heap := g4 } := inv.landed nb fl4.1 ((up0.trans upg).trans up4) os ag
        obtain ⟨oe4, us4, oeg4, zc4, dat4⟩ := fl4.there
        have su4 := inv4.suite oeg4 dat4 na nloc nfs
        refine store_ok (X := X.suite a ((a, oe4) :: (X.pn ++ pins))) (v := .ref a) su4 hN at_ (.inl loc) rfl (fun t5 su5 => ?_) (.inr loc)
        have bare : ∀ {σ6 : L2.St} {H6 : Hp} {t6 : Shared} {Q : Shared → Prop}, Inv (X.suite a ((a, oe4) :: (X.pn ++ pins))) [] σ6 H6 t6 → (∀ t7, Inv X pins (σ6.set i none) H6 t7 → Q t7) →
            wpAny (model X.prog X.w) X.A (do bindName X.env n .none; unbindBehindTheSuite X.env n cpos) (fun _ t7 => Q t7) X.xe t6 := fun {σ6 H6 t6 Q} su6 hq => gone_ok (su6.unsuite iok) hN at_ loc hq
        refine wpAny_mono ((bodyOk a oe4 cls d (X.pn ++ pins) zc4 ⟨_, dat4⟩).run [] t5 _ H' _ su5 (yes rfl a na)) (fun out t6 end6 => ?_) fun _ _ z => z.elim
        cases out with
        | next => obtain ⟨_, _, su6, q6⟩ := end6; exact bare su6 fun _ inv7 => ⟨_, _, inv7, q6⟩
        | brk => obtain ⟨_, _, su6, q6⟩ := end6; exact bare su6 fun _ inv7 => ⟨_, _, inv7, q6⟩
        | cont => obtain ⟨_, _, su6, q6⟩ := end6; exact bare su6 fun _ inv7 => ⟨_, _, inv7, q6⟩
        | ret u => obtain ⟨_, _, _, su6, r6, q6⟩ := end6; exact bare su6 fun _ inv7 => ⟨_, _, _, inv7, r6, q6⟩
  · cases out with
    | next => obtain ⟨_, _, inv, q⟩ := fine; exact wpAny_execs_nil ⟨_, _, inv.ofTry iok, q⟩
    | brk => obtain ⟨_, _, inv, q⟩ := fine; exact ⟨_, _, inv.ofTry iok, q⟩
    | cont => obtain ⟨_, _, inv, q⟩ := fine; exact ⟨_, _, inv.ofTry iok, q⟩
    | ret u => obtain ⟨_, _, _, inv, r, q⟩ := fine; exact ⟨_, _, _, inv.ofTry iok, r, q⟩
end
end TM
namespace L2
open PySem PySem.Spec PyProof.Rows
/-! ### C(), an own error without a def of its own that makes it -/
theorem pmk_own0 {X : Cx} {C : Addr} {bmB : List Value} {B newId initId : String} {x : Str} {p pos : Pos} (F : ExcBaseFacts B newId initId bmB) (q : PySem.W.excIn X.K C bmB newId = true) (gC : X.mg x = some (.ref C))
    (kC : PySem.W.keepIn X.K (.ref C) = true) (r : Raises X (.ref C)) (hg : Gl X x) (hdb : (x == ("__debug__" : Str)) = false := by decide) :
    PMk X (.Call (.Name x p) [] [] pos) (fun _ H Q => Q (.ref C) none H) := by
  intro pins s σ H Q I h
  refine wpAny_Call_Name_kw (ld_glob I hg gC ?_ hdb)
  refine PySem.W.callWith_K0 I.kIn kC ?_
  show wpAny _ _ (call (.ref C) []) _ _ _
  obtain ⟨bm, N, nm, qn, bs, hdct, sn, sub, ab, col, dd, k0, k1, k2, k3, k5, mN, hC, hN, hni, T⟩ := exc_obj I.kIn q
  exact wpAny_call_exc_subT F T hC hN hni (fun h' e hm => mk_of I hm r h (I.hok.gone hm.new)) (Nat.zero_le _)
end L2
namespace L2
open PySem PySem.Spec PyProof.Rows
/-! ### a != b of two objects whose class has its own ==, and no own != -/
section
variable {M : Model} {prog : Program} {w : World} {A : Around} {E : Value → Shared → Prop} {s : Shared} {K : PySem.W.Frag} {x y C f : Addr} {ox : Obj} {od : Option Obj}
theorem ne_asked {args : List Value} {Q : Option Value → Shared → Prop} (X : K.In s.heap) (I : PySem.W.InstAt s.heap x ox C od) (hs : PySem.W.findIn K (.ref C) "__ne__" = some (some (.builtin "object.__ne__")))
    (h : wpAny M A (call (.builtin "object.__ne__") (.ref x :: args)) (fun v => Q (some v)) E s) : wpAny M A (callSpecialIfBound? (.ref x) "__ne__" args) Q E s := by
  simp only [callSpecialIfBound?, bindSpecialIfBound?]
  have tail : wpAny M A (call (.builtin "object.__ne__") ([.ref x] ++ args) >>= fun v => pure (some v)) Q E s := wpAny_bind (wpAny_mono h (fun _ _ q => wpAny_pure q) fun _ _ q => q)
  refine wpAny_holding (wpAny_bind (wpAny_bind (wpAny_bind (I.type.here ((PySem.W.looks_findIn X hs).here (wpAny_bind (wpAny_askSetting (wpAny_ite ?_))))))))
  split
  case isFalse => exact wpAny_tryCatch (wpAny_bind (wpAny_of_eq (F.cmp_object.ne.bind _) (wpAny_pure (by exact tail))))
  case isTrue => exact wpAny_bind (wpAny_of_eq (F.cmp_object.ne.bind _) (wpAny_pure (by exact tail)))
theorem ne_told {Q : Fin → Shared → Prop} (X : K.In s.heap) (I : PySem.W.InstAt s.heap x ox C od) (hu : A.units < cLine) (hs : PySem.W.findIn K (.ref C) "__eq__" = some (some (.ref f))) (hf : PySem.W.isFn K (.ref f) = true)
    (h : wpAny (model prog w) A (call (.ref f) [.ref x, .ref y]) (fun v s' => ∃ b, v = .bool b ∧ Q (.done (.ret (.bool (!b)))) s') E s) : wpAny (model prog w) A (Builtin.«object.__ne__» ⟨[.ref x, .ref y], []⟩) Q E s := by
  unfold Builtin.«object.__ne__»
  repeat (first
    | with_reducible refine wpAny_cRoomFor hu ?_
    | (refine wpAny_bind (m := callSpecialIfBound? (.ref x) (Str.ofString "__eq__") [.ref y]) (PySem.W.ifBound_K X I hs hf (wpAny_mono h (fun v s' hv => by
        obtain ⟨b, rfl, q⟩ := hv
        repeat (first | exact q | exact wpAny_pure q | (refine wpAny_bind (m := truthy (.bool _)) (wpAny_truthy_bool ?_)) | wp_step)) fun _ _ e => e)))
    | wp_step)
theorem ne_one {Q : Option Value → Shared → Prop} (X : K.In s.heap) (I : PySem.W.InstAt s.heap x ox C od) (hu : A.units + 1 < cLine) (hm : PySem.W.mroIn K C (.type "object") = some true) (hn : PySem.W.findIn K (.ref C) "__ne__" = some (some (.builtin "object.__ne__"))) (hs : PySem.W.findIn K (.ref C) "__eq__" = some (some (.ref f))) (hf : PySem.W.isFn K (.ref f) = true)
    (h : wpAny (model prog w) A.in1 (call (.ref f) [.ref x, .ref y]) (fun v s' => ∃ b, v = .bool b ∧ Q (some (.bool (!b))) s') E s) : wpAny (model prog w) A (tryCompare (.ref x) "__ne__" (.ref y)) Q E s := by
  simp only [tryCompare]
  refine wpAny_bind (ne_asked X I hn (wpAny_call (codeAny_call_builtin F.cmp_object.ne.plain F.cmpEntry_ne (PySem.W.check_slot F.cmpKind_ne F.cmpSplit_ne (I.type.andThen (PySem.W.looks_mroIn X hm)) (F.cmpArgs_ne _ _)
    (ne_told (A := A.in1) X I hu hs hf (wpAny_mono h (fun v s' hv => ?_) fun _ _ e => e))))))
  obtain ⟨b, rfl, q⟩ := hv
  first | exact ⟨b, rfl, wpAny_pure q⟩ | exact ⟨b, rfl, wpAny_pure (wpAny_pure q)⟩ | exact ⟨b, rfl, q⟩
theorem ne_rich {oy : Obj} {od' : Option Obj} {Q : Value → Shared → Prop} (X : K.In s.heap) (I : PySem.W.InstAt s.heap x ox C od) (J : PySem.W.InstAt s.heap y oy C od') (hu : A.units + 1 < cLine) (hm : PySem.W.mroIn K C (.type "object") = some true) (hn : PySem.W.findIn K (.ref C) "__ne__" = some (some (.builtin "object.__ne__"))) (hs : PySem.W.findIn K (.ref C) "__eq__" = some (some (.ref f))) (hf : PySem.W.isFn K (.ref f) = true)
    (h : wpAny (model prog w) A.in1 (call (.ref f) [.ref x, .ref y]) (fun v s' => ∃ b, v = .bool b ∧ Q (.bool (!b)) s') E s) : wpAny (model prog w) A (compareOp .NotEq (.ref x) (.ref y)) Q E s := by
  unfold compareOp richCompare
  simp only [oneThing_ref]
  refine wpAny_holding (wpAny_bind (wpAny_cRoomFor (Nat.lt_of_succ_lt hu) ?_))
  rw [cmpInfo_NotEq]
  dsimp only
  refine wpAny_bind (I.type.here (wpAny_bind (J.type.here ?_)))
  rw [show (Value.ref C != Value.ref C) = false from by simp]
  simp only [Bool.false_eq_true, if_false]
  refine wpAny_bind (wpAny_pure ?_)
  simp only [Bool.false_eq_true, if_false]
  refine wpAny_bind (ne_one X I hu hm hn hs hf (wpAny_mono h (fun v s' hv => ?_) fun _ _ e => e))
  obtain ⟨b, rfl, q⟩ := hv
  first | exact ⟨b, rfl, wpAny_pure q⟩ | exact ⟨b, rfl, wpAny_pure (wpAny_pure q)⟩
end
def rNeO (C : Addr) (sp : Sp) (E : XK) : R2 := fun x y H Q => ∃ (a b dx dy : Addr) (fs gs : List (Str × V)), x = .ref a ∧ y = .ref b ∧ H a = some (.ins C dx fs) ∧ H b = some (.ins C dy gs) ∧ sp [.ref a, .ref b] H (fun v H' => ∃ c, v = .bl c ∧ Q (.bl (!c)) H') E
theorem op_neO {X : Cx} {CX : CXT} {n : Nat} {C f : Addr} {fd : FuncData} {ps : List Str} {sp : Sp} {E : XK} (F : FnOk X.prog X.w X.K X.mg X.base CX n f fd ps sp) (hrm : Room (n + 1) X.A) (hu : X.A.units + 1 < cLine)
    (hm : PySem.W.mroIn X.K C (.type "object") = some true) (hn : PySem.W.findIn X.K (.ref C) "__ne__" = some (some (.builtin "object.__ne__"))) (hs : PySem.W.findIn X.K (.ref C) "__eq__" = some (some (.ref f))) (hf : PySem.W.isFn X.K (.ref f) = true) (hb : Binds X.K fd ps []) (hx : Passes CX X E) : OpR X (compareOp .NotEq) (rNeO C sp E) := by
  intro pins s σ H x y v u Q I rx ry h
  obtain ⟨a, b, dx, dy, fs, gs, rfl, rfl, ha, hb', hsp⟩ := h
  cases rx
  cases ry
  obtain ⟨mA, J, _⟩ := ins_get I.hok ha
  obtain ⟨mB, J', _⟩ := ins_get I.hok hb'
  obtain ⟨od, J, _⟩ := J.look
  obtain ⟨od', J', _⟩ := J'.look
  refine ne_rich I.kIn J J' hu hm hn hs hf (wpAny_mono (run_fn1 (E := fun _ => E) F hrm hb (pAt hx σ) I (us := [.ref a, .ref b]) (vs := [.ref a, .ref b]) (.cons rfl (.cons rfl .nil)) hsp) (fun r s' q => ?_) fun _ _ z => z)
  obtain ⟨w, H', I', rw', c, ew, q⟩ := q
  subst ew
  cases rw'
  exact ⟨c, rfl, .bl (!c), H', I', rfl, q⟩
end L2
namespace L2
open PySem PySem.Spec PyProof.Rows
/-- x = {..} on one line, x a local, the keys names or numbers -/
theorem ps_setDc {X : Cx} {i : Nat} {y : Str} {py : Pos} {kx vx tg iter : Expr} {ifs : List Expr} {scope : Scope} {own : List (Str × Nat)} {pos spos : Pos} {wi : TI} {g : TG} {tt : TT} {tk tv : TE} (hc : X.calm = true) (hN : X.N.Nodup) (hy : X.N[i]? = some y) (hyl : X.env.scope.names.lookup y = some .local)
    (hsw : swapsWith (.DictComp kx vx [⟨tg, iter, ifs, 0⟩] scope pos) (some (.Name y py)) spos.line X.env = pure true) (hi : PI X tg iter wi) (ok : BlkOk X.N X.env.scope scope own)
    (hg : ∀ s H C cl fp, PG (X.blk s H scope (compEnvC scope cl C X.env) fp) tg g) (ht : ∀ s H C cl fp, PTs (X.blk s H scope (compEnvC scope cl C X.env) fp) ifs tt)
    (hk : ∀ s H C cl fp, PE (X.blk s H scope (compEnvC scope cl C X.env) fp) kx tk) (he : ∀ s H C cl fp, PE (X.blk s H scope (compEnvC scope cl C X.env) fp) vx tv) (hs : ∀ x, foldedSetIterable iter X.env x = pure x := by intro _; rfl) :
    PS X (.Assign [.Name y py] (.DictComp kx vx [⟨tg, iter, ifs, 0⟩] scope pos) spos) (tAsg (tDc wi g tt tk tv (own.map (·.2))) (gName i)) := by
  refine ⟨fun pins s σ H D I h => ?_⟩
  rw [exec_Assign_Name_used _ _ _ _ hsw]
  refine wpAny_bind (wpAny_standAt (wpAny_bind ?_))
  show wpAny _ X.A (do let _ ← comprehension (.DictComp kx vx [⟨tg, iter, ifs, 0⟩] scope pos) scope X.env (firstIterPos [⟨tg, iter, ifs, 0⟩] pos) newDict false (eval iter X.env) (some (assign (.Name y py) X.env))) _ _ s
  have h : tDc wi g tt tk tv (own.map (·.2)) σ H (fun x H1 => gName i x σ H1 D.nx) := h
  refine wpAny_bind (thn (dc_core (Qf := fun _ s' => SP X pins D .next s') hc hN I hi ok hg ht hk he hs h fun L C s' m H' I' q hn f => ?_) fun _ s' hq => wpAny_pure (wpAny_pure hq))
  show wpAny _ _ (assign (.Name y py) X.env (.ref L)) _ _ _
  refine wpAny_assign_Name (store_ok2 (v := V.ref L) I' hN hy (.inl hyl) rfl (fun s2 I2 ⟨a, sb, ha⟩ => ?_) (.inr hyl))
  obtain ⟨f0, f1, f2, f3, f4, f5⟩ := f
  refine ⟨m, hn.sameBut sb (fun e => ha.elim (fun z => f1 (e.trans z)) fun z => f4 y a z e.symm), fun h3 sb3 => ?_⟩
  exact ⟨_, H', I2.turned (t' := s2.toks) (fun b o hb e => (sb3.2 b hb).trans e) f0 f1 f3 f4 f5, q⟩
end L2
namespace L2
open PySem PySem.Spec PyProof.Rows
/-- o.f, told without the block -/
theorem pe_fldK {X : Cx} {K : PySem.W.Frag} {e : Expr} {f : Str} {pos : Pos} {ta : TE} (hK : X.K = K) (he : PE X e ta) (hb : attributeBase e f X.env (eval e X.env) = eval e X.env) : PE X (.Attribute e f pos) (tFld K ta f) := by
  subst hK
  exact pe_fld he hb
end L2
namespace L2
open PySem PySem.Spec PyProof.Rows
/-! ### texts: one call for things of two kinds -/
theorem call_orC {X : Cx} {f : Value} {r1 r2 : List V → Hp → VK → Prop} (h1 : CallR X f r1) (h2 : CallR X f r2) : CallR X f (fun xs H Q => r1 xs H Q ∨ r2 xs H Q) := fun pins s σ H xs us Q I r h => h.elim (h1 pins s σ H xs us Q I r) (h2 pins s σ H xs us Q I r)
theorem pi_or {X : Cx} {tg e : Expr} {t1 t2 : TI} (h1 : PI X tg e t1) (h2 : PI X tg e t2) : PI X tg e (fun σ H k => t1 σ H k ∨ t2 σ H k) := ⟨fun pins s σ H R I h => h.elim (h1.run pins s σ H R I) (h2.run pins s σ H R I)⟩
end L2
namespace L2
open PySem PySem.Spec PyProof.Rows
/-! ### a call of a local name that holds one of several defs, which may raise -/
structure HeldX (P : Program) (w : World) (K : PySem.W.Frag) (mg : Str → Option Value) (base : Heap) (CX : CXT) (k : Nat) (f : Addr) (sp : Sp) : Prop where
  ex : ∃ (fd : FuncData) (ps : List Str), FnOk P w K mg base CX k f fd ps sp ∧ PySem.W.keepIn K (.ref f) = true ∧ Binds K fd ps []
def tCallAX (i : Nat) (S : Addr → Sp → Prop) (E : XK) (t : TA) : TE := fun σ H Q => ∃ f sp, σ[i]? = some (some (.ref f)) ∧ S f sp ∧ t σ H fun vs H1 => sp (vs ++ []) H1 Q E
theorem pe_callAX {X : Cx} {CX : CXT} {k i : Nat} {E : XK} {x : Str} {p pos : Pos} {e : Expr} {es : List Expr} {t : TA} {S : Addr → Sp → Prop} (A : ∀ f sp, S f sp → HeldX X.prog X.w X.K X.mg X.base CX k f sp) (hr : Room k X.A) (hN : X.N[i]? = some x) (hv : Vis X.env.scope x) (hx : Passes CX X E) (ha : PA X (e :: es) t)
    (hdb : (x == ("__debug__" : Str)) = false := by decide) (hcd : (x == ("__classdict__" : Str)) = false := by decide)
    (he : starEach (e :: es) X.env = (false, eval e X.env) :: starEach es X.env := by rfl) (hpl : (backTo pos (starEach es X.env)).any (·.1) = false := by rfl) : PE X (.Call (.Name x p) (e :: es) [] pos) (tCallAX i S E t) := by
  refine ⟨fun pins s σ H Q I h => ?_⟩
  obtain ⟨f, sp, hs, hS, ht⟩ := h
  obtain ⟨fd, ps, F, hk, hb⟩ := (A f sp hS).ex
  exact (pe_callL (i := i) (f := f) (sp := sp) (dvs := []) (E := E) F hr hN hv hk hb .nil hx ha hdb hcd he hpl).run pins s σ H Q I ⟨hs, ht⟩
end L2
namespace L2
open PySem PySem.Spec PyProof.Rows
/-! ### o.f as one of several targets; d.get(k) of a dict that the module wrote -/
def gFld (K : PySem.W.Frag) (to : TE) (f : Str) : TG := fun v σ H Q => to σ H fun x H1 => ∃ (a C dx : Addr) (fs : List (Str × V)), x = .ref a ∧ H1 a = some (.ins C dx fs) ∧ Cls K C ∧ NoAttr K C f ∧ fs.length < 1000 ∧ Q σ (upd H1 a (.ins C dx (putF f v fs)))
theorem pg_fld {X : Cx} {o : Expr} {to : TE} {f : Str} {pos : Pos} (ho : PE X o to) : PG X (.Attribute o f pos) (gFld X.K to f) := by
  refine ⟨fun pins s σ H v u Q I r h => ?_⟩
  rw [arm_assign_Attribute]
  refine wpAny_bind (wpAny_holding (thn (ho.run pins s σ H _ I h) fun ov s1 ⟨x, H1, I1, r1, a, C, dx, fs, ex, ea, c, n, l, q1⟩ => ?_))
  subst ex
  obtain rfl : ov = Value.ref a := r1
  refine wpAny_bind (wpAny_standAt (wpAny_bind (wpAny_holding (setattr_ok I1 ea c n l r fun s3 I3 => ?_))))
  exact wpAny_release ⟨σ, _, I3, q1⟩
/-- a dict of the module, its keys texts -/
def WDct (K : PySem.W.Frag) (w : World) (a : Addr) : Prop := ∃ es n, K.lookup a = some ⟨.type "dict", none, .dict es n, #[]⟩ ∧ PySem.W.KeysLit w.params es.toList ∧ (a == sysModules) = false
def tWGet (K : PySem.W.Frag) (w : World) (to te : TE) : TE := fun σ H Q => to σ H fun x H1 => ∃ p, x = .ref p ∧ WDct K w p ∧ te σ H1 fun y H2 => ∃ (z : Str), y = .str z ∧
  ((∃ v u, PySem.W.nsIn K p z = some (some u) ∧ RelV v u ∧ Q v H2) ∨ (PySem.W.nsIn K p z = some none ∧ Q .non H2))
theorem pe_wget1 {X : Cx} {o e : Expr} {to te : TE} {apos cpos : Pos} (ho : PE X o to) (he : PE X e te) (m : M1 X o "get" apos e cpos) : PE X (.Call (.Attribute o "get" apos) [e] [] cpos) (tWGet X.K X.w to te) := by
  refine ⟨fun pins s σ H Q I h => ?_⟩
  refine wpAny_Call_method m.base m.few m.line PySem.F.plainAttrs_dict PySem.F.slot_dict_get PySem.F.type_dict_get (thn (ho.run pins s σ H _ I h) fun u s1 ⟨x, H1, I1, rx, p, ex, ⟨es, n, hl, hk, hd⟩, q1⟩ => ?_)
  subst ex
  obtain rfl : u = Value.ref p := rx
  have hm := PySem.W.mapOf_K (prog := X.prog) (w := X.w) I1.kIn hl hk
  refine ⟨hm.typeIs, hm.noDict, ?_⟩
  rw [m.trees]
  refine Calls.callWith_builtin rfl (Calls.evalArgs_plain (Calls.spliced_cons (thn (he.run pins s1 σ H1 _ I1 q1) fun iv s2 ⟨y, H2, I2, ry, z, ey, q2⟩ => Calls.spliced_nil ?_)))
  subst ey
  obtain ⟨t, rfl⟩ := (show ∃ t, iv = Value.str z t from ry)
  have hm2 := PySem.W.mapOf_K (prog := X.prog) (w := X.w) I2.kIn hl hk
  refine call_meetsIn PySem.F.slot_dict_get hm2.typeIs PySem.F.entry_dict_get (PySem.F.args_dict_get_2 _ _) (meets_dict_get (strKind X.prog X.w) p (strKind_is X.prog X.w z t) hd) ⟨_, hm2, ?_⟩
  rcases q2 with ⟨v, u0, e, ru, q⟩ | ⟨e, q⟩
  · have := PySem.W.find_K hl e
    refine ⟨v, H2, I2.tok _, ?_, q⟩
    show RelV v ((findBy Value.isStrOf es z).getD .none)
    rw [this]
    exact ru
  · have := PySem.W.find_K hl e
    refine ⟨.non, H2, I2.tok _, ?_, q⟩
    show RelV .non ((findBy Value.isStrOf es z).getD .none)
    rw [this]
    rfl
end L2
namespace L2
open PySem PySem.Spec PyProof.Rows
/-! ### xs != [], whatever stands in xs -/
def rNeE : R2 := fun x y H Q => ∃ (p q : Addr) (xs : List V), x = .ref p ∧ y = .ref q ∧ H p = some (.lst xs) ∧ H q = some (.lst []) ∧ Q (.bl (!xs.isEmpty)) H
theorem op_neE {X : Cx} (hu : X.A.units < cLine) : OpR X (compareOp .NotEq) rNeE := by
  intro pins s σ H x y v u Q I rx ry h
  obtain ⟨p, p', xs, rfl, rfl, hp, hq, q⟩ := h
  cases rx
  cases ry
  obtain ⟨_, its, n1, rv, ht⟩ := (show ObjOk X.prog X.w H s.heap p (.lst xs) from I.hok _ _ hp)
  obtain ⟨_, its', n2, rv', ht'⟩ := (show ObjOk X.prog X.w H s.heap p' (.lst []) from I.hok _ _ hq)
  have e1 : s.heap.IsList p its.toArray := ⟨_, ht, rfl, n1, rfl⟩
  have e2 : s.heap.IsList p' its'.toArray := ⟨_, ht', rfl, n2, rfl⟩
  have l1 : its.toArray.size = xs.length := by rw [List.size_toArray, ← Vals.length rv]
  have l2 : its'.toArray.size = 0 := by rw [List.size_toArray, ← Vals.length rv']; rfl
  cases xs with
  | nil => 
    have l1 : its.toArray.size = 0 := l1
    refine (SeqAt.RcNeAt.lists (A := X.A) (e := fun _ => true) e1 e2 (by rw [l1, l2]) hu (fun j h1 h2 => by omega)) X.prog X.w _ _ (fin_bl I q ?_)
    rw [l1]
    rfl
  | cons z zs =>
    refine (SeqAt.RcNeAt.lists_lengths (A := X.A) e1 e2 ?_ hu) X.prog X.w _ _ (fin_bl I q rfl)
    rw [l1, l2]
    rfl
end L2
namespace L2
open PySem PySem.Spec PyProof.Rows
/-! ### o(e, ..) by the class's own `__call__` -/
section
variable {M : Model} {A : Around} {E : Value → Shared → Prop} {s : Shared} {pos : Pos} {x : Addr} {first : List Value} {Q : Value → Shared → Prop}
theorem callWithO {args : List (Bool × Sem Value)} {keywords : List (Option Str × Sem Value)} (hplain : (args.any (·.1) || keywords.any (·.1.isNone)) = false)
    (h : wpAny M A (evalArgs (.ref x) true args keywords) (fun a s₁ => (∃ (ox : Obj) (C : Addr) (od : Option Obj), PySem.W.InstAt s₁.heap x ox C od ∧ ox.data = .plain) ∧ wpAny M A (call (.ref x) (first ++ a.pos) a.kw) Q E s₁) E s) : wpAny M A (callWith pos (.ref x) first args keywords) Q E s := by
  unfold callWith
  refine wpAny_bind (wpAny_holding (wpAny_mono h (fun a s₁ h₁ => wpAny_bind (wpAny_standAt ?_)) fun _ _ y => y))
  obtain ⟨⟨ox, C, od, I, hd⟩, h₁⟩ := h₁
  have L := PySem.W.kco_keeper (M := M) I hd
  simp only [hplain]
  refine wpAny_bind (L.here ?_)
  have tail : ∀ {t : Sem Value}, wpAny M A t Q E s₁ → wpAny M A (t >>= fun r => holding [r] point >>= fun _ => pure r) Q E s₁ :=
    fun ht => wpAny_bind (wpAny_mono ht (fun r s₂ hr => wpAny_bind (wpAny_holding (wpAny_point (wpAny_pure hr)))) fun _ _ y => y)
  exact tail (wpAny_operateT h₁)
end
def tCallO (C : Addr) (sp : Sp) (E : St → XK) (tf : TE) (t : TA) : TE := fun σ H Q => tf σ H fun x H1 => ∃ a, x = .ref a ∧ t σ H1 fun vs H2 => ∃ (dx : Addr) (fs : List (Str × V)), H2 a = some (.ins C dx fs) ∧ sp (.ref a :: vs) H2 Q (E σ)
section
variable {X : Cx} {CX : CXT} {k : Nat} {g C : Addr} {fd : FuncData} {ps : List Str} {sp : Sp} {E : St → XK} {f e : Expr} {es : List Expr} {pos : Pos} {tf : TE} {t : TA}
theorem run_callO {pins : List (Addr × Obj)} {σ : St} {H : Hp} {s : Shared} {Q : VK} {us : List Value} {vs : List V} {a dx : Addr} {fs : List (Str × V)} (hs : Spec1 X.K C "__call__" g) (F : FnOk X.prog X.w X.K X.mg X.base CX k g fd ps sp) (hr : Room k X.A) (hb : Binds X.K fd ps []) (hx : PassesAt CX X σ (E σ))
    (I : Inv X pins σ H s) (ha : H a = some (.ins C dx fs)) (r : Vals vs us) (h : sp (.ref a :: vs) H Q (E σ)) : wpAny (model X.prog X.w) X.A (call (.ref a) us) (EP X pins σ Q) X.xe s := by
  obtain ⟨mA, J, _⟩ := ins_get I.hok ha
  obtain ⟨od, J, _⟩ := J.look
  have r2 : Vals (.ref a :: vs) (.ref a :: us) := .cons rfl r
  have hl : (Value.ref a :: us).length = ps.length := by rw [← r2.length]; exact F.len _ _ _ _ h
  have b := hb s (.ref a :: us) I.kIn (by rw [List.append_nil]; exact hl)
  rw [List.append_nil] at b
  refine wpAny_call (PySem.W.kco_code I.kIn J rfl hs.at_ hs.fn hs.isf (codeAny_mono (F.run X.A X.stack s H ⟨.ref a :: us, []⟩ (.ref a :: us) (.ref a :: vs) Q (E σ) hr I.env0 b r2 h) fun r s' hq => ?_))
  cases r with
  | error e => exact hx pins H s e s' I hq
  | ok fl =>
    cases fl with
    | ret u => exact I.after hq
    | next => exact False.elim hq
    | brk => exact False.elim hq
    | cont => exact False.elim hq
theorem pe_callO (hf : PE X f tf) (hs : Spec1 X.K C "__call__" g) (F : FnOk X.prog X.w X.K X.mg X.base CX k g fd ps sp) (hr : Room k X.A) (hb : Binds X.K fd ps []) (hx : ∀ σ, PassesAt CX X σ (E σ)) (ha : PA X (e :: es) t)
    (hst : starEach (e :: es) X.env = (false, eval e X.env) :: starEach es X.env := by rfl) (hpl : (backTo pos (starEach es X.env)).any (·.1) = false := by rfl)
    (het : eval (.Call f (e :: es) [] pos) X.env = (do callWith pos (← eval f X.env) [] (backTo pos (starEach (e :: es) X.env)) (backToKw pos (keywordEach [] X.env))) := by rfl) : PE X (.Call f (e :: es) [] pos) (tCallO C sp E tf t) := by
  refine ⟨fun pins s σ H Q I h => Call_ (thn (hf.run pins s σ H _ I h) fun u s1 ⟨x, H1, I1, rx, a, ex, q⟩ => ?_) het⟩
  subst ex
  obtain rfl : u = Value.ref a := rx
  have h0 : wpAny (model X.prog X.w) X.A (spliced (backTo pos (starEach (e :: es) X.env))) (fun us s2 => (∃ (ox : Obj) (C : Addr) (od : Option Obj), PySem.W.InstAt s2.heap a ox C od ∧ ox.data = .plain) ∧ wpAny (model X.prog X.w) X.A (call (.ref a) us) (EP X pins σ Q) X.xe s2) X.xe s1 :=
    thn (ha.run pos pins s1 σ H1 _ I1 q) fun us s2 ⟨vs, H2, I2, r, dx, fs, h2, q2⟩ => by
      obtain ⟨mA, J, _⟩ := ins_get I2.hok h2
      obtain ⟨od, J, _⟩ := J.look
      exact ⟨⟨_, C, _, J, rfl⟩, run_callO hs F hr hb (hx σ) I2 h2 r q2⟩
  rw [hst] at h0 ⊢
  exact callWithO (by show ((false || (backTo pos (starEach es X.env)).any (·.1)) || false) = false; rw [hpl]; rfl) (Calls.evalArgs_plain h0)
end
end L2
namespace L2
open PySem PySem.Spec PyProof.Rows
/-! ### a def with one default, None -/
section
variable {P : Program} {w : World} {K : PySem.W.Frag} {mg : Str → Option Value} {base : Heap} {x qual : Str} {params : Arguments} {body : List Stmt} {scope : Scope} {f : Addr} {fd : FuncData} {ps : List Str}
theorem FunD.okN {dvs : List V} {kws : List (Str × V)} {N : List Str} {k : Nat} {sp : Sp} (F : FunD K x qual params body scope dvs kws f fd) (S : FnScope N ps scope) (len : ∀ vs H Q E, sp vs H Q E → vs.length = ps.length)
    (hbody : ∀ (cdv : Value) (A : Around) (outer : List Env) (s : Shared) (H : Hp) (vs : List V) (Q : VK) (E : XK), Room k (A.deeper (envOfC qual scope s.heap.objs.size f cdv)) → sp vs H Q E →
      ∃ t, PSs (cxOf CX0 P w K mg base N qual scope f cdv A outer s H E).nox body t ∧ t { nx := fun _ H' => Q .non H', rt := Q } (start N vs) H) : FnOk P w K mg base CX0 (k + 1) f fd ps sp :=
  F.ok S len fun cdv A outer s H vs Q E hr h => let ⟨t, h1, q⟩ := hbody cdv A outer s H vs Q E hr h; ⟨t, h1.nox, q⟩
/-- a def with a default that may raise -/
theorem FunD.okX {dvs : List V} {kws : List (Str × V)} {N : List Str} {k : Nat} {sp : Sp} (F : FunD K x qual params body scope dvs kws f fd) (S : FnScope N ps scope) (len : ∀ vs H Q E, sp vs H Q E → vs.length = ps.length)
    (word : ∀ (cdv : Value) (A : Around) (outer : List Env) (s : Shared) (H : Hp) (vs : List V) (Q : VK) (E : XK), Room k (A.deeper (envOfC qual scope s.heap.objs.size f cdv)) → sp vs H Q E →
      ∃ t, PSs (cxOf (L2.CX P w) P w K mg base N qual scope f cdv A outer s H E) body t ∧ t { nx := fun _ H' => Q .non H', rt := Q } (start N vs) H) : FnOk P w K mg base (L2.CX P w) (k + 1) f fd ps sp :=
  F.ok S len word
theorem binds_all (F : FunD K x qual params body scope [.non] [] f fd) (hp : 1 ≤ ps.length)
    (h : ∀ (T : Addr) (kV doc pm : Value) (an : Option Addr) (cdv ct : Value) (us its : List Value), us.length = ps.length → its.length = 1 →
      ∃ k, bindArgs (PySem.W.fnOf x qual params body scope (.ref T) kV doc pm an cdv ct) ⟨us, []⟩ = seqItems? (.ref T) >>= k ∧ k (some its.toArray) = pure (ps.zip (us ++ its.drop 1))) : Binds K fd ps [] := by
  obtain ⟨ds, hv, hb⟩ := F.binds1 ps.length 1 (by simp) (by simp) h
  cases hv
  exact hb
theorem binds_one (F : FunD K x qual params body scope [.non] [] f fd) (hp : 1 ≤ ps.length)
    (h : ∀ (T : Addr) (kV doc pm : Value) (an : Option Addr) (cdv ct : Value) (us its : List Value), us.length = ps.length - 1 → its.length = 1 →
      ∃ k, bindArgs (PySem.W.fnOf x qual params body scope (.ref T) kV doc pm an cdv ct) ⟨us, []⟩ = seqItems? (.ref T) >>= k ∧ k (some its.toArray) = pure (ps.zip (us ++ its.drop 0))) : Binds K fd ps [.none] := by
  obtain ⟨ds, hv, hb⟩ := F.binds1 (ps.length - 1) 0 (by simp) (by simp only [List.length_cons, List.length_nil]; omega) h
  cases hv with
  | cons a b =>
    cases b
    cases a
    exact hb
end
end L2
namespace L2
open PySem PySem.Spec PyProof.Rows
theorem vals_non : Vals [.non] [.none] := .cons rfl .nil
theorem op_orR {X : Cx} {f : Value → Value → Sem Value} {r1 r2 : R2} (h1 : OpR X f r1) (h2 : OpR X f r2) : OpR X f (fun x y H Q => r1 x y H Q ∨ r2 x y H Q) := fun pins s σ H x y v u Q I rx ry h => h.elim (h1 pins s σ H x y v u Q I rx ry) (h2 pins s σ H x y v u Q I rx ry)
end L2
namespace My
open PySem PySem.Spec PyProof.Rows L2
def topS (i : Nat) : Stmt := PySem.Challenge.pw_cappedcalls_k68_lines_of_programs.main.body.getD i (.Pass ⟨0, 0, 0, 0⟩)
abbrev s_UnknownName___init__ : Stmt := inClass (topS 3) 0
theorem sc_UnknownName___init__ : FnScope ["self", "name"] ["self", "name"] (defScope s_UnknownName___init__) := ⟨rfl, rfl, rfl, by decide +kernel, rfl, by decide +kernel, by decide +kernel⟩
abbrev s_InvalidProgram___init__ : Stmt := inClass (topS 5) 0
theorem sc_InvalidProgram___init__ : FnScope ["self", "part", "at"] ["self", "part", "at"] (defScope s_InvalidProgram___init__) := ⟨rfl, rfl, rfl, by decide +kernel, rfl, by decide +kernel, by decide +kernel⟩
abbrev s_is_plain_int : Stmt := topS 10
theorem sc_is_plain_int : FnScope ["thing"] ["thing"] (defScope s_is_plain_int) := ⟨rfl, rfl, rfl, by decide +kernel, rfl, by decide +kernel, by decide +kernel⟩
abbrev s_is_word : Stmt := topS 11
theorem sc_is_word : FnScope ["thing", "letter"] ["thing"] (defScope s_is_word) := ⟨rfl, rfl, rfl, by decide +kernel, rfl, by decide +kernel, by decide +kernel⟩
abbrev s_is_value : Stmt := topS 12
theorem sc_is_value : FnScope ["thing"] ["thing"] (defScope s_is_value) := ⟨rfl, rfl, rfl, by decide +kernel, rfl, by decide +kernel, by decide +kernel⟩
abbrev s__is_count : Stmt := topS 37
theorem sc__is_count : FnScope ["thing", "most"] ["thing", "most"] (defScope s__is_count) := ⟨rfl, rfl, rfl, by decide +kernel, rfl, by decide +kernel, by decide +kernel⟩
abbrev s__is_name_in : Stmt := topS 38
theorem sc__is_name_in : FnScope ["thing", "names"] ["thing", "names"] (defScope s__is_name_in) := ⟨rfl, rfl, rfl, by decide +kernel, rfl, by decide +kernel, by decide +kernel⟩
abbrev s__are_columns : Stmt := topS 39
theorem sc__are_columns : FnScope ["thing", "width", "least", "column"] ["thing", "width"] (defScope s__are_columns) := ⟨rfl, rfl, rfl, by decide +kernel, rfl, by decide +kernel, by decide +kernel⟩
abbrev s__is_key : Stmt := topS 40
theorem sc__is_key : FnScope ["thing", "width"] ["thing", "width"] (defScope s__is_key) := ⟨rfl, rfl, rfl, by decide +kernel, rfl, by decide +kernel, by decide +kernel⟩
abbrev s__is_service : Stmt := topS 41
theorem sc__is_service : FnScope ["thing", "tables", "table", "given", "cap"] ["thing", "tables"] (defScope s__is_service) := ⟨rfl, rfl, rfl, by decide +kernel, rfl, by decide +kernel, by decide +kernel⟩
abbrev s__is_whole_service : Stmt := topS 42
theorem sc__is_whole_service : FnScope ["service", "tables", "keys", "table", "given", "cap", "column"] ["service", "tables", "keys"] (defScope s__is_whole_service) := ⟨rfl, rfl, rfl, by decide +kernel, rfl, by decide +kernel, by decide +kernel⟩
abbrev s__check_tables : Stmt := topS 43
theorem sc__check_tables : FnScope ["tables", "name"] ["tables"] (defScope s__check_tables) := ⟨rfl, rfl, rfl, by decide +kernel, rfl, by decide +kernel, by decide +kernel⟩
abbrev s__check_keys : Stmt := topS 44
theorem sc__check_keys : FnScope ["keys", "tables", "name"] ["keys", "tables"] (defScope s__check_keys) := ⟨rfl, rfl, rfl, by decide +kernel, rfl, by decide +kernel, by decide +kernel⟩
abbrev s__check_services : Stmt := topS 45
theorem sc__check_services : FnScope ["services", "tables", "name"] ["services", "tables"] (defScope s__check_services) := ⟨rfl, rfl, rfl, by decide +kernel, rfl, by decide +kernel, by decide +kernel⟩
abbrev s__check_capped : Stmt := topS 46
theorem sc__check_capped : FnScope ["services", "tables", "keys", "capped_tables", "name", "service"] ["services", "tables", "keys"] (defScope s__check_capped) := ⟨rfl, rfl, rfl, by decide +kernel, rfl, by decide +kernel, by decide +kernel⟩
abbrev s__copied : Stmt := topS 47
theorem sc__copied : FnScope ["things", "name"] ["things"] (defScope s__copied) := ⟨rfl, rfl, rfl, by decide +kernel, rfl, by decide +kernel, by decide +kernel⟩
abbrev s_Schema___init__ : Stmt := inClass (topS 48) 0
theorem sc_Schema___init__ : FnScope ["self", "tables", "keys", "services"] ["self", "tables", "keys", "services"] (defScope s_Schema___init__) := ⟨rfl, rfl, rfl, by decide +kernel, rfl, by decide +kernel, by decide +kernel⟩
abbrev s_Schema___eq__ : Stmt := inClass (topS 48) 4
theorem sc_Schema___eq__ : FnScope ["self", "other"] ["self", "other"] (defScope s_Schema___eq__) := ⟨rfl, rfl, rfl, by decide +kernel, rfl, by decide +kernel, by decide +kernel⟩
abbrev s_Schema_service_names : Stmt := inClass (topS 48) 6
theorem sc_Schema_service_names : FnScope ["self"] ["self"] (defScope s_Schema_service_names) := ⟨rfl, rfl, rfl, by decide +kernel, rfl, by decide +kernel, by decide +kernel⟩
abbrev s_Schema_width_of : Stmt := inClass (topS 48) 8
theorem sc_Schema_width_of : FnScope ["self", "table"] ["self", "table"] (defScope s_Schema_width_of) := ⟨rfl, rfl, rfl, by decide +kernel, rfl, by decide +kernel, by decide +kernel⟩
abbrev s_Schema_service_of : Stmt := inClass (topS 48) 10
theorem sc_Schema_service_of : FnScope ["self", "name"] ["self", "name"] (defScope s_Schema_service_of) := ⟨rfl, rfl, rfl, by decide +kernel, rfl, by decide +kernel, by decide +kernel⟩
abbrev s_items_of : Stmt := topS 20
theorem sc_items_of : FnScope ["step"] ["step"] (defScope s_items_of) := ⟨rfl, rfl, rfl, by decide +kernel, rfl, by decide +kernel, by decide +kernel⟩
abbrev s__is_index : Stmt := topS 21
theorem sc__is_index : FnScope ["thing"] ["thing"] (defScope s__is_index) := ⟨rfl, rfl, rfl, by decide +kernel, rfl, by decide +kernel, by decide +kernel⟩
abbrev s__is_item : Stmt := topS 22
theorem sc__is_item : FnScope ["thing"] ["thing"] (defScope s__is_item) := ⟨rfl, rfl, rfl, by decide +kernel, rfl, by decide +kernel, by decide +kernel⟩
abbrev s__has_length_and_names : Stmt := topS 23
theorem sc__has_length_and_names : FnScope ["step", "name"] ["step"] (defScope s__has_length_and_names) := ⟨rfl, rfl, rfl, by decide +kernel, rfl, by decide +kernel, by decide +kernel⟩
abbrev s__has_form : Stmt := topS 24
theorem sc__has_form : FnScope ["step", "items", "item"] ["step"] (defScope s__has_form) := ⟨rfl, rfl, rfl, by decide +kernel, rfl, by decide +kernel, by decide +kernel⟩
abbrev s__used : Stmt := topS 25
theorem sc__used : FnScope ["step"] ["step"] (defScope s__used) := ⟨rfl, rfl, rfl, by decide +kernel, rfl, by decide +kernel, by decide +kernel⟩
abbrev s__has_names : Stmt := topS 26
theorem sc__has_names : FnScope ["schema", "step", "sizes", "name"] ["schema", "step", "sizes"] (defScope s__has_names) := ⟨rfl, rfl, rfl, by decide +kernel, rfl, by decide +kernel, by decide +kernel⟩
abbrev s__has_items : Stmt := topS 27
theorem sc__has_items : FnScope ["schema", "step", "sizes", "items", "item"] ["schema", "step", "sizes"] (defScope s__has_items) := ⟨rfl, rfl, rfl, by decide +kernel, rfl, by decide +kernel, by decide +kernel⟩
abbrev s__size : Stmt := topS 28
theorem sc__size : FnScope ["schema", "step", "sizes", "used", "width", "parts", "calls", "name"] ["schema", "step", "sizes"] (defScope s__size) := ⟨rfl, rfl, rfl, by decide +kernel, rfl, by decide +kernel, by decide +kernel⟩
abbrev s__joins_equal_widths : Stmt := topS 29
theorem sc__joins_equal_widths : FnScope ["step", "sizes"] ["step", "sizes"] (defScope s__joins_equal_widths) := ⟨rfl, rfl, rfl, by decide +kernel, rfl, by decide +kernel, by decide +kernel⟩
abbrev s__wrong_part : Stmt := topS 30
theorem sc__wrong_part : FnScope ["schema", "step", "sizes", "width", "parts", "calls"] ["schema", "step", "sizes"] (defScope s__wrong_part) := ⟨rfl, rfl, rfl, by decide +kernel, rfl, by decide +kernel, by decide +kernel⟩
abbrev s_Program___init__ : Stmt := inClass (topS 31) 0
theorem sc_Program___init__ : FnScope ["self", "schema", "steps", "sizes", "at", "step", "wrong"] ["self", "schema", "steps"] (defScope s_Program___init__) := ⟨rfl, rfl, rfl, by decide +kernel, rfl, by decide +kernel, by decide +kernel⟩
abbrev s_Program___eq__ : Stmt := inClass (topS 31) 1
theorem sc_Program___eq__ : FnScope ["self", "other"] ["self", "other"] (defScope s_Program___eq__) := ⟨rfl, rfl, rfl, by decide +kernel, rfl, by decide +kernel, by decide +kernel⟩
abbrev s_Program_step_list : Stmt := inClass (topS 31) 2
theorem sc_Program_step_list : FnScope ["self"] ["self"] (defScope s_Program_step_list) := ⟨rfl, rfl, rfl, by decide +kernel, rfl, by decide +kernel, by decide +kernel⟩
abbrev s_InvalidLine___init__ : Stmt := inClass (topS 6) 0
theorem sc_InvalidLine___init__ : FnScope ["self", "at"] ["self", "at"] (defScope s_InvalidLine___init__) := ⟨rfl, rfl, rfl, by decide +kernel, rfl, by decide +kernel, by decide +kernel⟩
abbrev s__name : Stmt := topS 51
theorem sc__name : FnScope ["text"] ["text"] (defScope s__name) := ⟨rfl, rfl, rfl, by decide +kernel, rfl, by decide +kernel, by decide +kernel⟩
abbrev s__number : Stmt := topS 52
theorem sc__number : FnScope ["text", "sign"] ["text"] (defScope s__number) := ⟨rfl, rfl, rfl, by decide +kernel, rfl, by decide +kernel, by decide +kernel⟩
abbrev s__value : Stmt := topS 53
theorem sc__value : FnScope ["text", "number"] ["text"] (defScope s__value) := ⟨rfl, rfl, rfl, by decide +kernel, rfl, by decide +kernel, by decide +kernel⟩
abbrev s__item : Stmt := topS 54
theorem sc__item : FnScope ["text", "value"] ["text"] (defScope s__item) := ⟨rfl, rfl, rfl, by decide +kernel, rfl, by decide +kernel, by decide +kernel⟩
abbrev s__read : Stmt := topS 56
theorem sc__read : FnScope ["form", "words", "first", "more", "behind", "found", "reader", "word", "thing"] ["form", "words"] (defScope s__read) := ⟨rfl, rfl, rfl, by decide +kernel, rfl, by decide +kernel, by decide +kernel⟩
abbrev s__read_at : Stmt := topS 57
theorem sc__read_at : FnScope ["at", "form", "words", "found"] ["at", "form", "words"] (defScope s__read_at) := ⟨rfl, rfl, rfl, by decide +kernel, rfl, by decide +kernel, by decide +kernel⟩
abbrev s__step : Stmt := topS 58
theorem sc__step : FnScope ["kind", "things", "many"] ["kind", "things"] (defScope s__step) := ⟨rfl, rfl, rfl, by decide +kernel, rfl, by decide +kernel, by decide +kernel⟩
abbrev s_read_program : Stmt := topS 59
theorem sc_read_program : FnScope ["schema", "lines", "steps", "at", "line", "words"] ["schema", "lines"] (defScope s_read_program) := ⟨rfl, rfl, rfl, by decide +kernel, rfl, by decide +kernel, by decide +kernel⟩
abbrev s__line : Stmt := topS 61
theorem sc__line : FnScope ["words", "word"] ["words"] (defScope s__line) := ⟨rfl, rfl, rfl, by decide +kernel, rfl, by decide +kernel, by decide +kernel⟩
abbrev s__item_word : Stmt := topS 62
theorem sc__item_word : FnScope ["item"] ["item"] (defScope s__item_word) := ⟨rfl, rfl, rfl, by decide +kernel, rfl, by decide +kernel, by decide +kernel⟩
abbrev s__step_words : Stmt := topS 63
theorem sc__step_words : FnScope ["step", "item"] ["step"] (defScope s__step_words) := ⟨rfl, rfl, rfl, by decide +kernel, rfl, by decide +kernel, by decide +kernel⟩
abbrev s_program_lines : Stmt := topS 64
theorem sc_program_lines : FnScope ["program", "step"] ["program"] (defScope s_program_lines) := ⟨rfl, rfl, rfl, by decide +kernel, rfl, by decide +kernel, by decide +kernel⟩
abbrev s__law_state : Stmt := topS 66
theorem sc__law_state : FnScope ["_law_script", "_law_k"] ["_law_script", "_law_k"] (defScope s__law_state) := ⟨rfl, rfl, rfl, by decide +kernel, rfl, by decide +kernel, by decide +kernel⟩
abbrev s__law_pick : Stmt := topS 67
theorem sc__law_pick : FnScope ["_law_state_here", "_law_many", "_law_number", "_law_mixed"] ["_law_state_here", "_law_many"] (defScope s__law_pick) := ⟨rfl, rfl, rfl, by decide +kernel, rfl, by decide +kernel, by decide +kernel⟩
abbrev s__law_word : Stmt := topS 68
theorem sc__law_word : FnScope ["_law_state_here", "_law_letters", "_law_size", "_law_k"] ["_law_state_here"] (defScope s__law_word) := ⟨rfl, rfl, rfl, by decide +kernel, rfl, by decide +kernel, by decide +kernel⟩
abbrev s__law_value : Stmt := topS 69
theorem sc__law_value : FnScope ["_law_state_here", "_law_kind", "_law_number"] ["_law_state_here"] (defScope s__law_value) := ⟨rfl, rfl, rfl, by decide +kernel, rfl, by decide +kernel, by decide +kernel⟩
abbrev s__law_item : Stmt := topS 70
theorem sc__law_item : FnScope ["_law_state_here", "_law_width", "_law_at"] ["_law_state_here", "_law_width"] (defScope s__law_item) := ⟨rfl, rfl, rfl, by decide +kernel, rfl, by decide +kernel, by decide +kernel⟩
abbrev s__law_name : Stmt := topS 71
theorem sc__law_name : FnScope ["_law_state_here", "_law_shapes", "_law_name_here", "_law_names", "_law_one"] ["_law_state_here", "_law_shapes"] (defScope s__law_name) := ⟨rfl, rfl, rfl, by decide +kernel, rfl, by decide +kernel, by decide +kernel⟩
abbrev s__law_step : Stmt := topS 72
theorem sc__law_step : FnScope ["_law_state_here", "_law_shapes", "_law_services", "_law_name_here", "_law_names", "_law_kind", "_law_source", "_law_other", "_law_width", "_law_parts", "_law_calls", "_law_far", "_law_more", "_law_extra", "_law_service", "_law_items", "_law_many", "_law_column", "_law_k"] ["_law_state_here", "_law_shapes", "_law_services"] (defScope s__law_step) := ⟨rfl, rfl, rfl, by decide +kernel, rfl, by decide +kernel, by decide +kernel⟩
abbrev s__law_item_word : Stmt := topS 73
theorem sc__law_item_word : FnScope ["_law_item_here"] ["_law_item_here"] (defScope s__law_item_word) := ⟨rfl, rfl, rfl, by decide +kernel, rfl, by decide +kernel, by decide +kernel⟩
abbrev s__law_line : Stmt := topS 74
theorem sc__law_line : FnScope ["_law_step_here", "_law_words", "_law_thing", "_law_item_here"] ["_law_step_here"] (defScope s__law_line) := ⟨rfl, rfl, rfl, by decide +kernel, rfl, by decide +kernel, by decide +kernel⟩
abbrev s__law_changed : Stmt := topS 75
theorem sc__law_changed : FnScope ["_law_state_here", "_law_steps", "_law_at", "_law_other", "_law_kind", "_law_changed_here"] ["_law_state_here", "_law_steps"] (defScope s__law_changed) := ⟨rfl, rfl, rfl, by decide +kernel, rfl, by decide +kernel, by decide +kernel⟩
abbrev s__law_made : Stmt := topS 76
theorem sc__law_made : FnScope ["_law_schema", "_law_steps", "_law_told", "e"] ["_law_schema", "_law_steps"] (defScope s__law_made) := ⟨rfl, rfl, rfl, by decide +kernel, rfl, by decide +kernel, by decide +kernel⟩
abbrev s__law_read : Stmt := topS 77
theorem sc__law_read : FnScope ["_law_schema", "_law_lines", "_law_told", "e"] ["_law_schema", "_law_lines"] (defScope s__law_read) := ⟨rfl, rfl, rfl, by decide +kernel, rfl, by decide +kernel, by decide +kernel⟩
abbrev s_law : Stmt := topS 78
theorem sc_law : FnScope ["_law_script", "_law_state_here", "_law_services", "_law_schema", "_law_shapes", "_law_steps", "_law_k", "_law_program", "_law_due", "_law_lines", "_law_handed", "_law_back", "_law_changed_here", "_law_step_here"] ["_law_script"] (defScope s_law) := ⟨rfl, rfl, rfl, by decide +kernel, rfl, by decide +kernel, by decide +kernel⟩
/-- what the top has written, as the walks ask for it -/
structure Txt (K : PySem.W.Frag) (mg : Str → Option Value) (a : Nat → Addr) (d : Nat → FuncData) : Prop where
  F1300 : Fun K "__init__" "UnknownName.__init__" s_UnknownName___init__ (a 1300) (d 1300)
  b1300 : Binds K (d 1300) ["self", "name"] []
  F1500 : Fun K "__init__" "InvalidProgram.__init__" s_InvalidProgram___init__ (a 1500) (d 1500)
  b1500 : Binds K (d 1500) ["self", "part", "at"] []
  F10 : Fun K "is_plain_int" "is_plain_int" s_is_plain_int (a 10) (d 10)
  b10 : Binds K (d 10) ["thing"] []
  g10 : mg "is_plain_int" = some (.ref (a 10))
  F11 : Fun K "is_word" "is_word" s_is_word (a 11) (d 11)
  b11 : Binds K (d 11) ["thing"] []
  g11 : mg "is_word" = some (.ref (a 11))
  F12 : Fun K "is_value" "is_value" s_is_value (a 12) (d 12)
  b12 : Binds K (d 12) ["thing"] []
  g12 : mg "is_value" = some (.ref (a 12))
  F37 : Fun K "_is_count" "_is_count" s__is_count (a 37) (d 37)
  b37 : Binds K (d 37) ["thing", "most"] []
  g37 : mg "_is_count" = some (.ref (a 37))
  F38 : Fun K "_is_name_in" "_is_name_in" s__is_name_in (a 38) (d 38)
  b38 : Binds K (d 38) ["thing", "names"] []
  g38 : mg "_is_name_in" = some (.ref (a 38))
  F39 : Fun K "_are_columns" "_are_columns" s__are_columns (a 39) (d 39)
  b39 : Binds K (d 39) ["thing", "width"] []
  g39 : mg "_are_columns" = some (.ref (a 39))
  F40 : Fun K "_is_key" "_is_key" s__is_key (a 40) (d 40)
  b40 : Binds K (d 40) ["thing", "width"] []
  g40 : mg "_is_key" = some (.ref (a 40))
  F41 : Fun K "_is_service" "_is_service" s__is_service (a 41) (d 41)
  b41 : Binds K (d 41) ["thing", "tables"] []
  g41 : mg "_is_service" = some (.ref (a 41))
  F42 : Fun K "_is_whole_service" "_is_whole_service" s__is_whole_service (a 42) (d 42)
  b42 : Binds K (d 42) ["service", "tables", "keys"] []
  g42 : mg "_is_whole_service" = some (.ref (a 42))
  F43 : Fun K "_check_tables" "_check_tables" s__check_tables (a 43) (d 43)
  b43 : Binds K (d 43) ["tables"] []
  g43 : mg "_check_tables" = some (.ref (a 43))
  F44 : Fun K "_check_keys" "_check_keys" s__check_keys (a 44) (d 44)
  b44 : Binds K (d 44) ["keys", "tables"] []
  g44 : mg "_check_keys" = some (.ref (a 44))
  F45 : Fun K "_check_services" "_check_services" s__check_services (a 45) (d 45)
  b45 : Binds K (d 45) ["services", "tables"] []
  g45 : mg "_check_services" = some (.ref (a 45))
  F46 : Fun K "_check_capped" "_check_capped" s__check_capped (a 46) (d 46)
  b46 : Binds K (d 46) ["services", "tables", "keys"] []
  g46 : mg "_check_capped" = some (.ref (a 46))
  F47 : Fun K "_copied" "_copied" s__copied (a 47) (d 47)
  b47 : Binds K (d 47) ["things"] []
  g47 : mg "_copied" = some (.ref (a 47))
  F5800 : Fun K "__init__" "Schema.__init__" s_Schema___init__ (a 5800) (d 5800)
  b5800 : Binds K (d 5800) ["self", "tables", "keys", "services"] []
  F5804 : Fun K "__eq__" "Schema.__eq__" s_Schema___eq__ (a 5804) (d 5804)
  b5804 : Binds K (d 5804) ["self", "other"] []
  F5806 : Fun K "service_names" "Schema.service_names" s_Schema_service_names (a 5806) (d 5806)
  b5806 : Binds K (d 5806) ["self"] []
  F5808 : Fun K "width_of" "Schema.width_of" s_Schema_width_of (a 5808) (d 5808)
  b5808 : Binds K (d 5808) ["self", "table"] []
  F5810 : Fun K "service_of" "Schema.service_of" s_Schema_service_of (a 5810) (d 5810)
  b5810 : Binds K (d 5810) ["self", "name"] []
  F20 : Fun K "items_of" "items_of" s_items_of (a 20) (d 20)
  b20 : Binds K (d 20) ["step"] []
  g20 : mg "items_of" = some (.ref (a 20))
  F21 : Fun K "_is_index" "_is_index" s__is_index (a 21) (d 21)
  b21 : Binds K (d 21) ["thing"] []
  g21 : mg "_is_index" = some (.ref (a 21))
  F22 : Fun K "_is_item" "_is_item" s__is_item (a 22) (d 22)
  b22 : Binds K (d 22) ["thing"] []
  g22 : mg "_is_item" = some (.ref (a 22))
  F23 : Fun K "_has_length_and_names" "_has_length_and_names" s__has_length_and_names (a 23) (d 23)
  b23 : Binds K (d 23) ["step"] []
  g23 : mg "_has_length_and_names" = some (.ref (a 23))
  F24 : Fun K "_has_form" "_has_form" s__has_form (a 24) (d 24)
  b24 : Binds K (d 24) ["step"] []
  g24 : mg "_has_form" = some (.ref (a 24))
  F25 : Fun K "_used" "_used" s__used (a 25) (d 25)
  b25 : Binds K (d 25) ["step"] []
  g25 : mg "_used" = some (.ref (a 25))
  F26 : Fun K "_has_names" "_has_names" s__has_names (a 26) (d 26)
  b26 : Binds K (d 26) ["schema", "step", "sizes"] []
  g26 : mg "_has_names" = some (.ref (a 26))
  F27 : Fun K "_has_items" "_has_items" s__has_items (a 27) (d 27)
  b27 : Binds K (d 27) ["schema", "step", "sizes"] []
  g27 : mg "_has_items" = some (.ref (a 27))
  F28 : Fun K "_size" "_size" s__size (a 28) (d 28)
  b28 : Binds K (d 28) ["schema", "step", "sizes"] []
  g28 : mg "_size" = some (.ref (a 28))
  F29 : Fun K "_joins_equal_widths" "_joins_equal_widths" s__joins_equal_widths (a 29) (d 29)
  b29 : Binds K (d 29) ["step", "sizes"] []
  g29 : mg "_joins_equal_widths" = some (.ref (a 29))
  F30 : Fun K "_wrong_part" "_wrong_part" s__wrong_part (a 30) (d 30)
  b30 : Binds K (d 30) ["schema", "step", "sizes"] []
  g30 : mg "_wrong_part" = some (.ref (a 30))
  F4100 : Fun K "__init__" "Program.__init__" s_Program___init__ (a 4100) (d 4100)
  b4100 : Binds K (d 4100) ["self", "schema", "steps"] []
  F4101 : Fun K "__eq__" "Program.__eq__" s_Program___eq__ (a 4101) (d 4101)
  b4101 : Binds K (d 4101) ["self", "other"] []
  F4102 : Fun K "step_list" "Program.step_list" s_Program_step_list (a 4102) (d 4102)
  b4102 : Binds K (d 4102) ["self"] []
  F1600 : Fun K "__init__" "InvalidLine.__init__" s_InvalidLine___init__ (a 1600) (d 1600)
  b1600 : Binds K (d 1600) ["self", "at"] []
  F51 : Fun K "_name" "_name" s__name (a 51) (d 51)
  b51 : Binds K (d 51) ["text"] []
  g51 : mg "_name" = some (.ref (a 51))
  F52 : Fun K "_number" "_number" s__number (a 52) (d 52)
  b52 : Binds K (d 52) ["text"] []
  g52 : mg "_number" = some (.ref (a 52))
  F53 : Fun K "_value" "_value" s__value (a 53) (d 53)
  b53 : Binds K (d 53) ["text"] []
  g53 : mg "_value" = some (.ref (a 53))
  F54 : Fun K "_item" "_item" s__item (a 54) (d 54)
  b54 : Binds K (d 54) ["text"] []
  g54 : mg "_item" = some (.ref (a 54))
  F56 : Fun K "_read" "_read" s__read (a 56) (d 56)
  b56 : Binds K (d 56) ["form", "words"] []
  g56 : mg "_read" = some (.ref (a 56))
  F57 : Fun K "_read_at" "_read_at" s__read_at (a 57) (d 57)
  b57 : Binds K (d 57) ["at", "form", "words"] []
  g57 : mg "_read_at" = some (.ref (a 57))
  F58 : Fun K "_step" "_step" s__step (a 58) (d 58)
  b58 : Binds K (d 58) ["kind", "things"] []
  g58 : mg "_step" = some (.ref (a 58))
  F59 : Fun K "read_program" "read_program" s_read_program (a 59) (d 59)
  b59 : Binds K (d 59) ["schema", "lines"] []
  g59 : mg "read_program" = some (.ref (a 59))
  F61 : Fun K "_line" "_line" s__line (a 61) (d 61)
  b61 : Binds K (d 61) ["words"] []
  g61 : mg "_line" = some (.ref (a 61))
  F62 : Fun K "_item_word" "_item_word" s__item_word (a 62) (d 62)
  b62 : Binds K (d 62) ["item"] []
  g62 : mg "_item_word" = some (.ref (a 62))
  F63 : Fun K "_step_words" "_step_words" s__step_words (a 63) (d 63)
  b63 : Binds K (d 63) ["step"] []
  g63 : mg "_step_words" = some (.ref (a 63))
  F64 : Fun K "program_lines" "program_lines" s_program_lines (a 64) (d 64)
  b64 : Binds K (d 64) ["program"] []
  g64 : mg "program_lines" = some (.ref (a 64))
  F66 : Fun K "_law_state" "_law_state" s__law_state (a 66) (d 66)
  b66 : Binds K (d 66) ["_law_script", "_law_k"] []
  g66 : mg "_law_state" = some (.ref (a 66))
  F67 : Fun K "_law_pick" "_law_pick" s__law_pick (a 67) (d 67)
  b67 : Binds K (d 67) ["_law_state_here", "_law_many"] []
  g67 : mg "_law_pick" = some (.ref (a 67))
  F68 : Fun K "_law_word" "_law_word" s__law_word (a 68) (d 68)
  b68 : Binds K (d 68) ["_law_state_here"] []
  g68 : mg "_law_word" = some (.ref (a 68))
  F69 : Fun K "_law_value" "_law_value" s__law_value (a 69) (d 69)
  b69 : Binds K (d 69) ["_law_state_here"] []
  g69 : mg "_law_value" = some (.ref (a 69))
  F70 : Fun K "_law_item" "_law_item" s__law_item (a 70) (d 70)
  b70 : Binds K (d 70) ["_law_state_here", "_law_width"] []
  g70 : mg "_law_item" = some (.ref (a 70))
  F71 : Fun K "_law_name" "_law_name" s__law_name (a 71) (d 71)
  b71 : Binds K (d 71) ["_law_state_here", "_law_shapes"] []
  g71 : mg "_law_name" = some (.ref (a 71))
  F72 : Fun K "_law_step" "_law_step" s__law_step (a 72) (d 72)
  b72 : Binds K (d 72) ["_law_state_here", "_law_shapes", "_law_services"] []
  g72 : mg "_law_step" = some (.ref (a 72))
  F73 : Fun K "_law_item_word" "_law_item_word" s__law_item_word (a 73) (d 73)
  b73 : Binds K (d 73) ["_law_item_here"] []
  g73 : mg "_law_item_word" = some (.ref (a 73))
  F74 : Fun K "_law_line" "_law_line" s__law_line (a 74) (d 74)
  b74 : Binds K (d 74) ["_law_step_here"] []
  g74 : mg "_law_line" = some (.ref (a 74))
  F75 : Fun K "_law_changed" "_law_changed" s__law_changed (a 75) (d 75)
  b75 : Binds K (d 75) ["_law_state_here", "_law_steps"] []
  g75 : mg "_law_changed" = some (.ref (a 75))
  F76 : Fun K "_law_made" "_law_made" s__law_made (a 76) (d 76)
  b76 : Binds K (d 76) ["_law_schema", "_law_steps"] []
  g76 : mg "_law_made" = some (.ref (a 76))
  F77 : Fun K "_law_read" "_law_read" s__law_read (a 77) (d 77)
  b77 : Binds K (d 77) ["_law_schema", "_law_lines"] []
  g77 : mg "_law_read" = some (.ref (a 77))
  F78 : Fun K "law" "law" s_law (a 78) (d 78)
  b78 : Binds K (d 78) ["_law_script"] []
  g78 : mg "law" = some (.ref (a 78))
  cg_2 : mg "CappedError" = some (.ref (a 2))
  x_2 : OexC K (a 2)
  xf_2 : XfC K (a 2)
  xi_2 : ExcC K (a 2)
  cg_3 : mg "UnknownName" = some (.ref (a 3))
  x_3 : OexC K (a 3)
  xf_3 : XfC K (a 3)
  xi_3 : ExcC K (a 3)
  in_3 : PySem.W.findIn K (.ref (a 3)) "__init__" = some (some (.ref (a 1300)))
  ti_3 : PySem.W.typeIn K (.ref (a 1300)) = some (.type "function")
  no_3_name : PySem.W.findIn K (.ref (a 3)) "name" = some none
  cg_5 : mg "InvalidProgram" = some (.ref (a 5))
  x_5 : OexC K (a 5)
  xf_5 : XfC K (a 5)
  xi_5 : ExcC K (a 5)
  in_5 : PySem.W.findIn K (.ref (a 5)) "__init__" = some (some (.ref (a 1500)))
  ti_5 : PySem.W.typeIn K (.ref (a 1500)) = some (.type "function")
  no_5_part : PySem.W.findIn K (.ref (a 5)) "part" = some none
  no_5_at : PySem.W.findIn K (.ref (a 5)) "at" = some none
  cg_6 : mg "InvalidLine" = some (.ref (a 6))
  x_6 : OexC K (a 6)
  xf_6 : XfC K (a 6)
  xi_6 : ExcC K (a 6)
  in_6 : PySem.W.findIn K (.ref (a 6)) "__init__" = some (some (.ref (a 1600)))
  ti_6 : PySem.W.typeIn K (.ref (a 1600)) = some (.type "function")
  no_6_at : PySem.W.findIn K (.ref (a 6)) "at" = some none
  cg_48 : mg "Schema" = some (.ref (a 48))
  cl_48 : Cls K (a 48)
  M_48 : Mk K (a 48) (a 5800)
  no_48__tables : NoAttr K (a 48) "_tables"
  no_48__keys : NoAttr K (a 48) "_keys"
  no_48__services : NoAttr K (a 48) "_services"
  cg_31 : mg "Program" = some (.ref (a 31))
  cl_31 : Cls K (a 31)
  M_31 : Mk K (a 31) (a 4100)
  no_31_schema : NoAttr K (a 31) "schema"
  no_31_width : NoAttr K (a 31) "width"
  no_31_part_count : NoAttr K (a 31) "part_count"
  no_31_call_count : NoAttr K (a 31) "call_count"
  no_31__steps : NoAttr K (a 31) "_steps"
  wg__LENGTHS : mg "_LENGTHS" = some (.ref (a 90018))
  wg__NAMES : mg "_NAMES" = some (.ref (a 90019))
  wg__PROGRAM_FORMS : mg "_PROGRAM_FORMS" = some (.ref (a 90055))
  ic_48 : C8.InsC K (a 48)
  ic_31 : C8.InsC K (a 31)
  ne_31 : PySem.W.findIn K (.ref (a 31)) "__ne__" = some (some (.builtin "object.__ne__"))
  om_31 : PySem.W.mroIn K (a 31) (.type "object") = some true
  exm_5_5 : PySem.W.exmOne K (.ref (a 5)) (.ref (a 5)) = some true
  m_5804 : Meth K (a 48) "__eq__" (a 5804)
  m_5806 : Meth K (a 48) "service_names" (a 5806)
  m_5808 : Meth K (a 48) "width_of" (a 5808)
  m_5810 : Meth K (a 48) "service_of" (a 5810)
  m_4101 : Meth K (a 31) "__eq__" (a 4101)
  m_4102 : Meth K (a 31) "step_list" (a 4102)
  z_all : mg "all" = none
  z_bool : mg "bool" = none
  z_dict : mg "dict" = none
  z_enumerate : mg "enumerate" = none
  z_int : mg "int" = none
  z_isinstance : mg "isinstance" = none
  z_len : mg "len" = none
  z_list : mg "list" = none
  z_max : mg "max" = none
  z_range : mg "range" = none
  z_sorted : mg "sorted" = none
  z_str : mg "str" = none
  z_tuple : mg "tuple" = none
  z_zip : mg "zip" = none
  c_LONGEST_WORD : ∃ t, mg "LONGEST_WORD" = some (.int (8) t)
  c_GREATEST_VALUE : ∃ t, mg "GREATEST_VALUE" = some (.int (999999999999999999999999999999) t)
  c_MOST_STEPS : ∃ t, mg "MOST_STEPS" = some (.int (12) t)
  c_MOST_WIDTH_programs : ∃ t, mg "MOST_WIDTH_programs" = some (.int (12) t)
  c_MOST_PARTS : ∃ t, mg "MOST_PARTS" = some (.int (16) t)
  c_MOST_CALLS : ∃ t, mg "MOST_CALLS" = some (.int (4) t)
  c_MOST_TABLES : ∃ t, mg "MOST_TABLES" = some (.int (5) t)
  c_MOST_WIDTH_schemas : ∃ t, mg "MOST_WIDTH_schemas" = some (.int (4) t)
  c_MOST_SERVICES : ∃ t, mg "MOST_SERVICES" = some (.int (8) t)
  c_MOST_CAP : ∃ t, mg "MOST_CAP" = some (.int (4) t)
  c_MOST_DIGITS : ∃ t, mg "MOST_DIGITS" = some (.int (30) t)
end My
namespace My
open PySem PySem.Spec PyProof.Rows L2
local macro_rules | `(tactic| walk_at "g") => `(tactic| first
  | refine ⟨_, rfl, ?_⟩
  | refine ⟨_, _, rfl, rfl, .inl ⟨by decide, by decide⟩, ?_⟩
  | refine ⟨_, _, rfl, rfl, .inr ⟨by decide, by decide⟩, ?_⟩
  | refine ⟨_, _, rfl, rfl, .inl ⟨by omega, by omega⟩, ?_⟩
  | refine ⟨_, _, rfl, rfl, ⟨by decide, by decide +kernel⟩, ?_⟩
  | refine ⟨_, _, rfl, rfl, ⟨by decide, by decide, by decide⟩, ?_⟩
  | refine ⟨_, _, rfl, rfl, (by show (0 : Int) < _; decide), ?_⟩
  | refine ⟨_, _, rfl, rfl, ?_⟩
  | refine .inl ⟨_, rfl, ?_⟩
  | refine ⟨rfl, _, rfl, ?_⟩)
local macro_rules | `(tactic| walk_at "gg") => `(tactic| repeat walk_at "g")
/-- what comes behind a statement, under a name -/
theorem seq_cut {t u : TS} {D : Ends} {σ : L2.St} {H : Hp} (h : ∀ N : L2.St → Hp → Prop, (∀ σ' H', u D σ' H' → N σ' H') → t { D with nx := N } σ H) : tSeq t u D σ H := h _ fun _ _ x => x
/-! ### the pool of draws: a list of ints at an address that every draw changes -/
def PoolAt (H : Hp) (a : Addr) : Prop := ∃ (p0 p1 p2 p3 : Int) (r : List Int), H a = some (.lst (.int p0 :: .int p1 :: .int p2 :: .int p3 :: r.map V.int)) ∧ 0 ≤ p0 ∧ 0 ≤ p1 ∧ 0 ≤ p2 ∧ p2 < 2147483647 ∧ 0 ≤ p3 ∧ r.length ≤ 63
/-- the pool at a may have changed; all else that was tracked stands -/
def Chg (a : Addr) (H H' : Hp) : Prop := PoolAt H' a ∧ ∀ b o, b ≠ a → H b = some o → H' b = some o
theorem Chg.refl {a : Addr} {H : Hp} (h : PoolAt H a) : Chg a H H := ⟨h, fun _ _ _ e => e⟩
theorem Chg.trans {a : Addr} {H H1 H2 : Hp} (x : Chg a H H1) (y : Chg a H1 H2) : Chg a H H2 := ⟨y.1, fun b o n e => y.2 b o n (x.2 b o n e)⟩
theorem Chg.new {a p : Addr} {o : HO} {H H1 : Hp} (x : Chg a H H1) (h : H1 p = none) : Chg a H (upd H1 p o) := by
  obtain ⟨⟨p0, p1, p2, p3, r, e, c⟩, k⟩ := x
  have n : a ≠ p := ne_of_none e h
  exact ⟨⟨p0, p1, p2, p3, r, by rw [upd_ne n]; exact e, c⟩, fun b u nb q => by
    have q' := k b u nb q
    rw [upd_ne (ne_of_none q' h)]
    exact q'⟩
theorem Chg.mut {a p : Addr} {o : HO} {H H1 : Hp} (x : Chg a H H1) (h : H p = none) (n : p ≠ a) : Chg a H (upd H1 p o) := by
  obtain ⟨⟨p0, p1, p2, p3, r, e, c⟩, k⟩ := x
  exact ⟨⟨p0, p1, p2, p3, r, by rw [upd_ne n.symm]; exact e, c⟩, fun b u nb q => by
    rw [upd_ne (ne_of_none q h)]
    exact k b u nb q⟩
theorem Chg.ne {a p : Addr} {H : Hp} (x : PoolAt H a) (h : H p = none) : p ≠ a := by
  obtain ⟨p0, p1, p2, p3, r, e, c⟩ := x
  exact (ne_of_none e h).symm
theorem PoolAt.same {a : Addr} {H H' : Hp} (x : PoolAt H a) (s : Same H H') : PoolAt H' a := by
  obtain ⟨p0, p1, p2, p3, r, e, c⟩ := x
  exact ⟨p0, p1, p2, p3, r, s _ _ e, c⟩
theorem same_upd {H : Hp} {p : Addr} {o : HO} (h : H p = none) : Same H (upd H p o) := fun b x e => by
  rw [upd_ne (ne_of_none e h)]
  exact e
theorem Same.on {H H' : Hp} {b : Addr} {o : HO} (s : Same H H') (e : H b = some o) : H' b = some o := s _ _ e
theorem upd_old {H : Hp} {p b : Addr} {o u : HO} (h : H p = none) (e : H b = some u) : upd H p o b = some u := by
  rw [upd_ne (ne_of_none e h)]
  exact e
theorem upd_oldN {H : Hp} {p b : Addr} {o u : HO} (n : b ≠ p) (e : H b = some u) : upd H p o b = some u := by
  rw [upd_ne n]
  exact e
theorem free_of {a p : Addr} {H H1 : Hp} (x : Chg a H H1) (h0 : PoolAt H a) (h : H1 p = none) : H p = none := by
  cases e : H p with
  | none => rfl
  | some o =>
    by_cases n : p = a
    · subst n
      obtain ⟨⟨p0, p1, p2, p3, r, e, c⟩, _⟩ := x
      rw [e] at h
      cases h
    · rw [x.2 p o n e] at h
      cases h
theorem ixN_at {n j : Nat} (h : j < n) : ixN n (j : Int) = some j := by
  unfold ixN
  rw [if_pos (by omega), if_pos (by omega)]
  simp
theorem ite_d {p A B : Prop} [Decidable p] (h1 : p → A) (h2 : ¬ p → B) : if decide p = true then A else B := by
  by_cases h : p
  · rw [if_pos (decide_eq_true h)]
    exact h1 h
  · rw [if_neg (by rw [decide_eq_false h]; decide)]
    exact h2 h
theorem ite_nd {p A B : Prop} [Decidable p] (h1 : ¬ p → A) (h2 : p → B) : if (!decide p) = true then A else B := by
  by_cases h : p
  · rw [if_neg (by rw [decide_eq_true h]; decide)]
    exact h2 h
  · rw [if_pos (by rw [decide_eq_false h]; decide)]
    exact h1 h
theorem ite_eqI {i j : Int} {A B : Prop} (h1 : i = j → A) (h2 : i ≠ j → B) : if decide (V.int i = V.int j) = true then A else B := ite_d (fun h => h1 (V.int.inj h)) (fun h => h2 fun e => h (congrArg V.int e))
theorem int_at {q0 q1 q2 q3 : Int} {r : List Int} {i : Nat} (h : i < (V.int q0 :: .int q1 :: .int q2 :: .int q3 :: r.map V.int).length) : ∃ c, (V.int q0 :: .int q1 :: .int q2 :: .int q3 :: r.map V.int)[i]? = some (.int c) := by
  have e : (V.int q0 :: .int q1 :: .int q2 :: .int q3 :: r.map V.int) = (q0 :: q1 :: q2 :: q3 :: r).map V.int := rfl
  rw [e] at h ⊢
  rw [List.length_map] at h
  exact ⟨_, by rw [List.getElem?_map, List.getElem?_eq_getElem h]; rfl⟩
theorem map_at {α β : Type} {f : α → β} {xs : List α} {i : Nat} {y : β} (h : (xs.map f)[i]? = some y) : ∃ x, xs[i]? = some x ∧ f x = y := by
  rw [List.getElem?_map] at h
  cases e : xs[i]? with
  | none =>
    rw [e] at h
    cases h
  | some x =>
    rw [e] at h
    exact ⟨x, rfl, Option.some.inj h⟩
theorem map_take {α β : Type} {f : α → β} {xs : List α} {i : Nat} {x : α} (h : xs[i]? = some x) : (xs.take (i + 1)).map f = (xs.take i).map f ++ [f x] := by
  rw [List.take_add_one, h, List.map_append]
  rfl
theorem small1000' {n : Nat} (h : n ≤ 1000) : n ≤ sizeLine := Nat.le_of_lt (small1000 h)
theorem hu_of64 {A : Around} {k : Nat} (hr : Room k A) : A.units + 64 < cLine := Nat.lt_of_le_of_lt (Nat.add_le_add_left (by omega : 64 ≤ 16 * k + 200) _) (by have := hr.un; omega)
theorem hu_of65 {A : Around} {k : Nat} (hr : Room k A) : A.units + 65 < cLine := Nat.lt_of_le_of_lt (Nat.add_le_add_left (by omega : 65 ≤ 16 * k + 200) _) (by have := hr.un; omega)
theorem hu_of80 {A : Around} {k : Nat} (hr : Room k A) : A.units + 80 < cLine := Nat.lt_of_le_of_lt (Nat.add_le_add_left (by omega : 80 ≤ 16 * k + 200) _) (by have := hr.un; omega)
theorem at_g {α : Type} {xs : List α} {z : Int} {j : Nat} {v : α} (e : z = (j : Int)) (h : xs[j]? = some v) : atI xs z = some v := by
  rw [e]
  exact atI_nat h
theorem at_some {α : Type} {xs : List α} {z : Int} (h0 : 0 ≤ z) (h1 : z < xs.length) : ∃ v, atI xs z = some v := by
  have h2 : z.toNat < xs.length := by omega
  exact ⟨_, at_g (show z = ((z.toNat : Nat) : Int) by omega) (List.getElem?_eq_getElem h2)⟩
theorem atI_mem {α : Type} {xs : List α} {z : Int} {v : α} (h : atI xs z = some v) : v ∈ xs := by
  unfold atI at h
  cases e : ixN xs.length z with
  | none =>
    rw [e] at h
    cases h
  | some j =>
    rw [e] at h
    exact List.mem_of_getElem? h
theorem cutS_mem {z : Str} {lo hi : Option Int} {c : Nat} (h : c ∈ (cutS z lo hi).cps.toList) : c ∈ z.cps.toList := by
  unfold cutS at h
  exact List.mem_of_mem_drop (List.mem_of_mem_take h)
theorem letter_at : ∀ j : Nat, j < 26 → ("abcdefghijklmnopqrstuvwxyz" : Str).cps.toList[j]? = some (97 + j) := by decide +kernel
def Oth (a : Addr) (H H' : Hp) : Prop := ∀ b o, b ≠ a → H b = some o → H' b = some o
theorem Oth.refl (a : Addr) (H : Hp) : Oth a H H := fun _ _ _ e => e
theorem Oth.upd {a : Addr} {H H' : Hp} {o : HO} (x : Oth a H H') : Oth a H (upd H' a o) := fun b u n e => by
  rw [upd_ne n]
  exact x b u n e
def IsWd (s : Str) (m : Nat) : Prop := s.length = m ∧ ∀ c ∈ s.cps.toList, 97 ≤ c ∧ c ≤ 122
local macro_rules | `(tactic| walk_at "kp") => `(tactic| solve_by_elim (maxDepth := 30) [Same.on, upd_same, upd_old, upd_oldN])
/-! ### words, names -/
def Wd (s : Str) : Prop := 1 ≤ s.length ∧ s.length ≤ 8 ∧ ∀ c ∈ s.cps.toList, 97 ≤ c ∧ c ≤ 122
def sgn (c : Nat) : Str := ⟨#[c]⟩
theorem cps_app (s t : Str) : (s ++ t).cps.toList = s.cps.toList ++ t.cps.toList := by
  show (s.cps ++ t.cps).toList = _
  rw [Array.toList_append]
theorem len_cps (s : Str) : s.length = s.cps.toList.length := by
  show s.cps.size = _
  rw [Array.length_toList]
theorem len_app (s t : Str) : (s ++ t).length = s.length + t.length := by
  rw [len_cps, cps_app, List.length_append, ← len_cps, ← len_cps]
def nmOf (fr : Bool) (stem : Str) (c : Nat) : Str := if fr = true then sgn c ++ stem else stem ++ sgn c
theorem nmOf_inj {fr : Bool} {stem : Str} {c e : Nat} (h : nmOf fr stem c = nmOf fr stem e) : c = e := by
  have h' := congrArg (fun s : Str => s.cps.toList) h
  cases fr with
  | true =>
    have h2 : (sgn c ++ stem).cps.toList = (sgn e ++ stem).cps.toList := h'
    rw [cps_app, cps_app] at h2
    exact (List.cons.inj h2).1
  | false =>
    have h2 : (stem ++ sgn c).cps.toList = (stem ++ sgn e).cps.toList := h'
    rw [cps_app, cps_app] at h2
    exact (List.cons.inj (List.append_cancel_left h2)).1
theorem nmOf_wd {fr : Bool} {stem : Str} {n c : Nat} (h : IsWd stem n) (hn : n ≤ 7) (h1 : 97 ≤ c) (h2 : c ≤ 122) : Wd (nmOf fr stem c) := by
  have l1 : (sgn c).length = 1 := rfl
  have hl := h.1
  have hs : ∀ x ∈ (sgn c).cps.toList, 97 ≤ x ∧ x ≤ 122 := fun x hx => by
    rw [List.mem_singleton.mp hx]
    exact ⟨h1, h2⟩
  cases fr with
  | true =>
    refine ⟨?_, ?_, fun x hx => ?_⟩
    · show 1 ≤ (sgn c ++ stem).length
      rw [len_app]
      omega
    · show (sgn c ++ stem).length ≤ 8
      rw [len_app]
      omega
    · have hx' : x ∈ (sgn c ++ stem).cps.toList := hx
      rw [cps_app] at hx'
      exact (List.mem_append.mp hx').elim (hs x) (h.2 x)
  | false =>
    refine ⟨?_, ?_, fun x hx => ?_⟩
    · show 1 ≤ (stem ++ sgn c).length
      rw [len_app]
      omega
    · show (stem ++ sgn c).length ≤ 8
      rw [len_app]
      omega
    · have hx' : x ∈ (stem ++ sgn c).cps.toList := hx
      rw [cps_app] at hx'
      exact (List.mem_append.mp hx').elim (h.2 x) (hs x)
/-- names of m things: words, no two alike -/
structure Nms (ns : List Str) (m : Nat) : Prop where
  len : ns.length = m
  nd : ns.Nodup
  wd : ∀ s ∈ ns, Wd s
def signAt (f s : Int) (k : Nat) : Nat := 97 + ((f + s * (k : Int)) % 26).toNat
theorem signAt_le (f s : Int) (k : Nat) : 97 ≤ signAt f s k ∧ signAt f s k ≤ 122 := by
  unfold signAt
  have h1 := Int.emod_nonneg (f + s * (k : Int)) (by decide : (26 : Int) ≠ 0)
  have h2 := Int.emod_lt_of_pos (f + s * (k : Int)) (by decide : (0 : Int) < 26)
  omega
theorem signAt_inj {f s : Int} (hs : s ∈ ([1, 3, 5, 7, 9, 11] : List Int)) {i j : Nat} (hi : i < 26) (hj : j < 26) (h : signAt f s i = signAt f s j) : i = j := by
  unfold signAt at h
  have h1 := Int.emod_nonneg (f + s * (i : Int)) (by decide : (26 : Int) ≠ 0)
  have h2 := Int.emod_nonneg (f + s * (j : Int)) (by decide : (26 : Int) ≠ 0)
  have e : (f + s * (i : Int)) % 26 = (f + s * (j : Int)) % 26 := by omega
  simp only [List.mem_cons, List.not_mem_nil, or_false] at hs
  rcases hs with rfl | rfl | rfl | rfl | rfl | rfl <;> omega
def namesOf (fr : Bool) (stem : Str) (f s : Int) (m : Nat) : List Str := (List.range m).map fun k => nmOf fr stem (signAt f s k)
theorem namesOf_succ (fr : Bool) (stem : Str) (f s : Int) (m : Nat) : namesOf fr stem f s (m + 1) = namesOf fr stem f s m ++ [nmOf fr stem (signAt f s m)] := by
  unfold namesOf
  rw [List.range_succ, List.map_append]
  rfl
theorem nodup_map {α β : Type} {f : α → β} : ∀ {xs : List α}, xs.Nodup → (∀ x ∈ xs, ∀ y ∈ xs, f x = f y → x = y) → (xs.map f).Nodup
  | [], _, _ => List.nodup_nil
  | x :: xs, hd, hi => by
    have hd' := List.nodup_cons.mp hd
    rw [List.map_cons]
    refine List.nodup_cons.mpr ⟨fun hm => ?_, nodup_map hd'.2 fun y hy z hz => hi y (List.mem_cons_of_mem _ hy) z (List.mem_cons_of_mem _ hz)⟩
    obtain ⟨y, hy, e⟩ := List.mem_map.mp hm
    have := hi y (List.mem_cons_of_mem _ hy) x (List.mem_cons_self ..) e
    rw [this] at hy
    exact hd'.1 hy
theorem namesOf_ok {fr : Bool} {stem : Str} {n : Nat} {f s : Int} {m : Nat} (h : IsWd stem n) (hn : n ≤ 7) (hs : s ∈ ([1, 3, 5, 7, 9, 11] : List Int)) (hm : m ≤ 26) : Nms (namesOf fr stem f s m) m := by
  refine ⟨by unfold namesOf; rw [List.length_map, List.length_range], nodup_map List.nodup_range fun x hx y hy e => ?_, fun z hz => ?_⟩
  · exact signAt_inj hs (Nat.lt_of_lt_of_le (List.mem_range.mp hx) hm) (Nat.lt_of_lt_of_le (List.mem_range.mp hy) hm) (nmOf_inj e)
  · obtain ⟨k, hk, rfl⟩ := List.mem_map.mp hz
    exact nmOf_wd h hn (signAt_le f s k).1 (signAt_le f s k).2
section
variable {P : Program} {w : World} {K : PySem.W.Frag} {mg : Str → Option Value} {base : Heap} {a : Nat → Addr} {d : Nat → FuncData}
/-! ### _law_names -/
def spNames : Sp := fun vs H Q _ => ∃ (p : Addr) (m : Nat), vs = [.ref p, .int (m : Int)] ∧ PoolAt H p ∧ m ≤ 26 ∧
  ∀ (l : Addr) (ns : List Str) (H' : Hp), H l = none → H' l = some (.lst (ns.map V.str)) → Nms ns m → Chg p H H' → Q (.ref l) H'
/-! ### _law_columns -/
def Cols (cs : List Int) (w : Int) : Prop := cs.Pairwise (· < ·) ∧ ∀ c ∈ cs, 0 ≤ c ∧ c < w
theorem Cols.take {cs : List Int} {w : Int} (h : Cols cs w) (n : Nat) : Cols (cs.take n) w := ⟨h.1.sublist (List.take_sublist n cs), fun c hc => h.2 c (List.mem_of_mem_take hc)⟩
theorem Cols.snoc {cs : List Int} {i : Nat} (h : Cols cs (i : Int)) : Cols (cs ++ [(i : Int)]) ((i + 1 : Nat) : Int) := by
  refine ⟨List.pairwise_append.mpr ⟨h.1, List.pairwise_singleton _ _, fun x hx y hy => ?_⟩, fun c hc => ?_⟩
  · rw [List.mem_singleton.mp hy]
    exact (h.2 x hx).2
  · rcases List.mem_append.mp hc with h' | h'
    · have := h.2 c h'
      omega
    · rw [List.mem_singleton.mp h']
      omega
theorem Cols.up {cs : List Int} {v w : Int} (h : Cols cs v) (hw : v ≤ w) : Cols cs w := ⟨h.1, fun c hc => ⟨(h.2 c hc).1, Int.lt_of_lt_of_le (h.2 c hc).2 hw⟩⟩
theorem cut_take (xs : List V) (n : Nat) : cutV xs none (some (n : Int)) = xs.take n := by
  unfold cutV
  show (xs.drop 0).take (HT.sIx xs.length xs.length (some (n : Int)) - 0) = _
  rw [List.drop_zero, Nat.sub_zero]
  rw [HT.sIx_nat]
  by_cases h : n ≤ xs.length
  · rw [Nat.min_eq_left h]
  · rw [Nat.min_eq_right (by omega), List.take_length, List.take_of_length_le (by omega)]
def spCols : Sp := fun vs H Q _ => ∃ (p : Addr) (w lo : Int) (hi : Nat), vs = [.ref p, .int w, .int lo, .int (hi : Int)] ∧ PoolAt H p ∧ 1 ≤ w ∧ w ≤ 100 ∧ lo ≤ 1 ∧
  ∀ (t : Addr) (cs : List Int) (H' : Hp), H t = none → H' t = some (.tup (cs.map V.int)) → Cols cs w → cs.length ≤ hi → (lo = 1 → 1 ≤ hi → 1 ≤ cs.length) → Chg p H H' → Q (.ref t) H'
/-! ### _law_tables -/
def tabK (ts : List (Str × Int)) : List (Key × V) := ts.map fun p => (Sum.inr p.1, V.int p.2)
structure Tabs (ts : List (Str × Int)) (m : Nat) (wm : Int) : Prop where
  nm : Nms (ts.map (·.1)) m
  wd : ∀ p ∈ ts, 1 ≤ p.2 ∧ p.2 ≤ wm
theorem Tabs.len {ts : List (Str × Int)} {m : Nat} {wm : Int} (h : Tabs ts m wm) : ts.length = m := by
  rw [← h.nm.len, List.length_map]
theorem valV_no {κ : Type} [DecidableEq κ] {k : κ} : ∀ {kvs : List (κ × V)}, k ∉ kvs.map (·.1) → valV kvs k = none
  | [], _ => rfl
  | p :: r, h => by
    rw [List.map_cons] at h
    rw [valV_neg (fun e => h (by rw [e]; exact List.mem_cons_self ..))]
    exact valV_no fun hm => h (List.mem_cons_of_mem _ hm)
theorem nd_take {α : Type} {xs : List α} {i : Nat} {x : α} (h : xs.Nodup) (hx : xs[i]? = some x) : x ∉ xs.take i := fun hm => by
  have e : (xs.take (i + 1)).Nodup := h.sublist (List.take_sublist _ _)
  rw [List.take_add_one, hx] at e
  exact (List.nodup_append.mp e).2.2 x hm x (by simp) rfl
theorem keys_tab (ts : List (Str × Int)) : (tabK ts).map (·.1) = (ts.map (·.1)).map Sum.inr := by
  unfold tabK
  rw [List.map_map, List.map_map]
  rfl
theorem inr_nd {ns : List Str} (h : ns.Nodup) : (ns.map (Sum.inr : Str → Key)).Nodup := nodup_map h fun _ _ _ _ e => Sum.inr.inj e
theorem inr_no {ns : List Str} {n : Str} (h : n ∉ ns) : (Sum.inr n : Key) ∉ ns.map Sum.inr := fun hm => by
  obtain ⟨x, hx, e⟩ := List.mem_map.mp hm
  rw [← Sum.inr.inj e] at h
  exact h hx
theorem tab_at {H : Hp} {t : Addr} {ts : List (Str × Int)} {n : Str} {w : Int} (e : H t = some (.dK (tabK ts))) (nd : (ts.map (·.1)).Nodup) (h : (n, w) ∈ ts) : DGet H t (.str n) (some (.int w)) := by
  have g := DGet.k (k := Sum.inr n) e
  have v : valV (tabK ts) (Sum.inr n) = some (.int w) := val_nodup (kvs := tabK ts) (by rw [keys_tab]; exact inr_nd nd) (Sum.inr n, V.int w) (List.mem_map.mpr ⟨(n, w), h, rfl⟩)
  rw [v] at g
  exact g
theorem snoc_map {α β : Type} (f : α → β) (xs : List α) (x : α) : (xs ++ [x]).map f = xs.map f ++ [f x] := by
  rw [List.map_append]
  rfl
theorem Chg.at {p b : Addr} {H H' : Hp} {o : HO} (c : Chg p H H') (n : b ≠ p) (e : H b = some o) : H' b = some o := c.2 b o n e
theorem pool_ne {H : Hp} {p b : Addr} {o : HO} (h : PoolAt H p) (e : H b = some o) (x : ∀ xs, o ≠ .lst xs) : b ≠ p := by
  obtain ⟨p0, p1, p2, p3, r, e', c⟩ := h
  exact ne_of e e' (x _)
def spTables : Sp := fun vs H Q _ => ∃ (p : Addr) (m : Nat) (wm : Int), vs = [.ref p, .int (m : Int), .int wm] ∧ PoolAt H p ∧ m ≤ 26 ∧ 1 ≤ wm ∧ wm ≤ 100 ∧
  ∀ (t : Addr) (ts : List (Str × Int)) (H' : Hp), H t = none → H' t = some (.dK (tabK ts)) → Tabs ts m wm → Chg p H H' → Q (.ref t) H'
/-! ### _law_keys -/
abbrev KeyE := Str × Addr × List Int
def keyK (ks : List KeyE) : List (Key × V) := ks.map fun b => (Sum.inr b.1, V.ref b.2.1)
theorem keys_key (ks : List KeyE) : (keyK ks).map (·.1) = (ks.map (·.1)).map Sum.inr := by
  unfold keyK
  rw [List.map_map, List.map_map]
  rfl
structure Keys (H : Hp) (ts : List (Str × Int)) (ks : List KeyE) : Prop where
  nd : (ks.map (·.1)).Nodup
  le : ks.length ≤ ts.length
  at_ : ∀ b ∈ ks, H b.2.1 = some (.tup (b.2.2.map V.int))
  ok : ∀ b ∈ ks, ∃ w, (b.1, w) ∈ ts ∧ Cols b.2.2 w ∧ 1 ≤ b.2.2.length ∧ (b.2.2.length : Int) < w
theorem Keys.mono {H H' : Hp} {ts : List (Str × Int)} {ks : List KeyE} (h : Keys H ts ks) (m : ∀ b xs, H b = some (.tup xs) → H' b = some (.tup xs)) : Keys H' ts ks := ⟨h.nd, h.le, fun b hb => m _ _ (h.at_ b hb), h.ok⟩
theorem chg_tup {p : Addr} {H H' : Hp} (h : PoolAt H p) (c : Chg p H H') : ∀ b xs, H b = some (.tup xs) → H' b = some (.tup xs) := fun b xs e => c.at (pool_ne h e (by intro _ z; cases z)) e
theorem upd_tup {H : Hp} {t : Addr} {o u : HO} (h : H t = some u) (n : ∀ xs, u ≠ .tup xs) : ∀ b xs, H b = some (.tup xs) → upd H t o b = some (.tup xs) := fun b xs e => by
  rw [upd_ne (ne_of e h (fun z => n xs z.symm))]
  exact e
def spKeys : Sp := fun vs H Q _ => ∃ (p t : Addr) (m : Nat) (ts : List (Str × Int)), vs = [.ref p, .ref t] ∧ PoolAt H p ∧ H t = some (.dK (tabK ts)) ∧ Tabs ts m 100 ∧ m ≤ 26 ∧
  ∀ (k : Addr) (ks : List KeyE) (H' : Hp), H k = none → H' k = some (.dK (keyK ks)) → Keys H' ts ks → Chg p H H' → Q (.ref k) H'
/-! ### _law_is_whole -/
theorem valV_mem {κ : Type} [DecidableEq κ] {k : κ} {v : V} : ∀ {kvs : List (κ × V)}, valV kvs k = some v → (k, v) ∈ kvs
  | [], h => by cases h
  | p :: r, h => by
    by_cases e : p.1 = k
    · rw [valV_pos e] at h
      have : p = (k, v) := by rw [← e, ← Option.some.inj h]
      rw [this]
      exact List.mem_cons_self ..
    · rw [valV_neg e] at h
      exact List.mem_cons_of_mem _ (valV_mem h)
theorem perm_nd {κ : Type} {a b : List (κ × V)} (p : a.Perm b) (nd : (b.map (·.1)).Nodup) : (a.map (·.1)).Nodup := (p.map (·.1)).nodup_iff.mpr nd
theorem valV_perm {κ : Type} [DecidableEq κ] {a b : List (κ × V)} (p : a.Perm b) (nd : (b.map (·.1)).Nodup) (k : κ) : valV a k = valV b k := by
  cases h : valV b k with
  | some v => exact val_nodup (perm_nd p nd) (k, v) (p.mem_iff.mpr (valV_mem h))
  | none =>
    cases h' : valV a k with
    | none => rfl
    | some v =>
      rw [val_nodup nd (k, v) (p.mem_iff.mp (valV_mem h'))] at h
      cases h
/-- a dict at t with these pairs, in any order -/
def DctAt (H : Hp) (t : Addr) (kvs : List (Key × V)) : Prop := ∃ ks, H t = some (.dK ks) ∧ ks.Perm kvs
theorem DctAt.of {H : Hp} {t : Addr} {kvs : List (Key × V)} (h : H t = some (.dK kvs)) : DctAt H t kvs := ⟨kvs, h, .refl _⟩
theorem DctAt.same {H H' : Hp} {t : Addr} {kvs : List (Key × V)} (h : DctAt H t kvs) (s : Same H H') : DctAt H' t kvs := by
  obtain ⟨ks, e, p⟩ := h
  exact ⟨ks, s _ _ e, p⟩
theorem DctAt.get {H : Hp} {t : Addr} {kvs : List (Key × V)} (h : DctAt H t kvs) (nd : (kvs.map (·.1)).Nodup) (k : Key) : DGet H t (kV k) (valV kvs k) := by
  obtain ⟨ks, e, p⟩ := h
  have g := DGet.k (k := k) e
  rw [valV_perm p nd] at g
  exact g
theorem tab_nd {ts : List (Str × Int)} {m : Nat} {wm : Int} (h : Tabs ts m wm) : ((tabK ts).map (·.1)).Nodup := by
  rw [keys_tab]
  exact inr_nd h.nm.nd
theorem tab_val {ts : List (Str × Int)} {m : Nat} {wm : Int} {n : Str} {w : Int} (h : Tabs ts m wm) (hm : (n, w) ∈ ts) : valV (tabK ts) (Sum.inr n) = some (.int w) :=
  val_nodup (kvs := tabK ts) (tab_nd h) (Sum.inr n, V.int w) (List.mem_map.mpr ⟨(n, w), hm, rfl⟩)
theorem key_nd {H : Hp} {ts : List (Str × Int)} {ks : List KeyE} {m : Nat} {wm : Int} (hT : Tabs ts m wm) (h : Keys H ts ks) : ((keyK ks).map (·.1)).Nodup := by
  rw [keys_key]
  exact inr_nd h.nd
theorem DctAt.at_ {H : Hp} {t : Addr} {kvs : List (Key × V)} {n : Str} {v : V} (h : DctAt H t kvs) (nd : (kvs.map (·.1)).Nodup) (e : valV kvs (Sum.inr n) = some v) : DGet H t (.str n) (some v) := by
  have g := h.get nd (Sum.inr n)
  rw [e] at g
  exact g
def capV : Option Int → V
  | none => .non
  | some i => .int i
theorem capV_none (c : Option Int) : decide (capV c = .non) = c.isNone := by
  cases c <;> rfl
def keyAt (ks : List KeyE) (n : Str) : Option KeyE := ks.find? fun b => decide (b.1 = n)
theorem keyAt_val (n : Str) : ∀ ks : List KeyE, valV (keyK ks) (Sum.inr n) = (keyAt ks n).map fun b => V.ref b.2.1
  | [] => rfl
  | b :: ks => by
    have ih := keyAt_val n ks
    unfold keyAt keyK at ih ⊢
    rw [List.map_cons]
    by_cases e : b.1 = n
    · rw [valV_pos (by rw [e])]
      simp [e]
    · rw [valV_neg (fun z => e (Sum.inr.inj z)), ih]
      simp [e]
theorem keyAt_mem {ks : List KeyE} {n : Str} {b : KeyE} (h : keyAt ks n = some b) : b ∈ ks ∧ b.1 = n := by
  unfold keyAt at h
  exact ⟨List.mem_of_find?_eq_some h, by simpa using List.find?_some h⟩
def isWh (w : Int) (ks : List KeyE) (n : Str) (cols : List Int) (cap : Option Int) : Bool :=
  cap.isNone || (decide ((cols.length : Int) = w) || match keyAt ks n with
    | none => false
    | some b => b.2.2.all fun x => decide (x ∈ cols))
theorem inV_ints (c : Int) (xs : List Int) : inV (.int c) (xs.map V.int) = decide (c ∈ xs) := by
  unfold inV
  rw [List.any_map]
  apply Bool.eq_iff_iff.mpr
  rw [List.any_eq_true, decide_eq_true_iff]
  constructor
  · rintro ⟨x, hx, e⟩
    have e' : decide (x = c) = true := e
    rw [← of_decide_eq_true e']
    exact hx
  · intro h
    exact ⟨c, h, decide_eq_true rfl⟩
theorem flat_ints (xs : List Int) : (xs.map V.int).all flatV = true := by
  rw [List.all_map, List.all_eq_true]
  intro _ _
  rfl
theorem dp_ints {K : PySem.W.Frag} {H : Hp} : ∀ ns : List Int, DpAll K H (ns.map V.int) (ns.map PyData.int)
  | [] => .nil
  | n :: ns => .cons (.int n) (dp_ints ns)
theorem lay_ints : ∀ ns : List Int, PyData.canLayAll0 (ns.map PyData.int) = true ∧ PyData.depthAll (ns.map PyData.int) = 0
  | [] => by simp [PyData.canLayAll0, PyData.depthAll]
  | n :: ns => by
    obtain ⟨h1, h2⟩ := lay_ints ns
    simp only [List.map_cons, PyData.canLayAll0, PyData.depthAll, PyData.canLay0, PyData.depth, h1, h2, Bool.and_self, true_and]
    rfl
theorem ints_shaped (ns : List Int) : SeqAt.shaped (.list (ns.map PyData.int)) = true := by
  obtain ⟨h1, h2⟩ := lay_ints ns
  show ((PyData.list (ns.map PyData.int)).canLay0 && decide ((PyData.list (ns.map PyData.int)).depth ≤ 64)) = true
  simp only [PyData.canLay0, PyData.depth, h1, h2]
  decide
theorem eqv_nilL (ds : List PyData) : PyData.eqv (.list ds) (.list []) = ds.isEmpty := by
  cases ds <;> simp [PyData.eqv, PyData.eqvAll]
theorem filter_empty (cs xs : List Int) : ((cs.filter fun c => !decide (c ∈ xs)).map PyData.int).isEmpty = cs.all fun c => decide (c ∈ xs) := by
  induction cs with
  | nil => rfl
  | cons c cs ih =>
    by_cases h : c ∈ xs
    · rw [List.filter_cons_of_neg (by simp [h]), ih, List.all_cons, decide_eq_true h, Bool.true_and]
    · rw [List.filter_cons_of_pos (by simp [h]), List.all_cons, decide_eq_false h, Bool.false_and]
      rfl
structure Told (H : Hp) (v : Addr) (n : Str) (ga : Addr) (cols : List Int) (cap : Option Int) : Prop where
  tup : H v = some (.tup [.str n, .ref ga, capV cap])
  cols : H ga = some (.tup (cols.map V.int))
theorem Told.mono {H H' : Hp} {v : Addr} {n : Str} {ga : Addr} {cols : List Int} {cap : Option Int} (h : Told H v n ga cols cap) (m : ∀ b xs, H b = some (.tup xs) → H' b = some (.tup xs)) : Told H' v n ga cols cap := ⟨m _ _ h.tup, m _ _ h.cols⟩
def spWhole : Sp := fun vs H Q _ => ∃ (t k v ga : Addr) (m : Nat) (ts : List (Str × Int)) (ks : List KeyE) (n : Str) (w : Int) (cols : List Int) (cap : Option Int), vs = [.ref t, .ref k, .ref v] ∧ DctAt H t (tabK ts) ∧ DctAt H k (keyK ks) ∧ Tabs ts m 100 ∧ Keys H ts ks ∧
  Told H v n ga cols cap ∧ (n, w) ∈ ts ∧ cols.length ≤ 100 ∧ ∀ H', Same H H' → Q (.bl (isWh w ks n cols cap)) H'
/-! ### _law_services -/
structure SvE where
  name : Str
  at_ : Addr
  tab : Str
  ga : Addr
  cols : List Int
  cap : Option Int
def svK (ss : List SvE) : List (Key × V) := ss.map fun b => (Sum.inr b.name, V.ref b.at_)
theorem keys_sv (ss : List SvE) : (svK ss).map (·.1) = (ss.map (·.name)).map Sum.inr := by
  unfold svK
  rw [List.map_map, List.map_map]
  rfl
def widthAt (ts : List (Str × Int)) (n : Str) : Int := ((ts.find? fun b => decide (b.1 = n)).map (·.2)).getD 0
theorem widthAt_mem {n : Str} {w : Int} : ∀ {ts : List (Str × Int)}, (ts.map (·.1)).Nodup → (n, w) ∈ ts → widthAt ts n = w
  | b :: ts, nd, h => by
    rw [List.map_cons] at nd
    have nd' := List.nodup_cons.mp nd
    unfold widthAt
    by_cases e : b.1 = n
    · rcases List.mem_cons.mp h with h' | h'
      · rw [← h']
        simp
      · exact absurd (by rw [e]; exact List.mem_map.mpr ⟨_, h', rfl⟩) nd'.1
    · rcases List.mem_cons.mp h with h' | h'
      · exact absurd (by rw [← h']) e
      · have ih := widthAt_mem nd'.2 h'
        unfold widthAt at ih
        simpa [e] using ih
/-- is the service whole -/
def whE (ts : List (Str × Int)) (ks : List KeyE) (b : SvE) : Bool := isWh (widthAt ts b.tab) ks b.tab b.cols b.cap
def fillE (ts : List (Str × Int)) (ks : List KeyE) (ss : List SvE) : List Str := (ss.filter fun b => !whE ts ks b).map (·.tab)
theorem fillE_snoc (ts : List (Str × Int)) (ks : List KeyE) (ss : List SvE) (b : SvE) : fillE ts ks (ss ++ [b]) = fillE ts ks ss ++ (if whE ts ks b = true then [] else [b.tab]) := by
  unfold fillE
  rw [List.filter_append, List.map_append]
  cases e : whE ts ks b <;> simp [e]
structure SvOk (H : Hp) (ts : List (Str × Int)) (b : SvE) : Prop where
  told : Told H b.at_ b.tab b.ga b.cols b.cap
  ok : ∃ w, (b.tab, w) ∈ ts ∧ Cols b.cols w ∧ b.cols.length ≤ 4
  cap : ∀ c, b.cap = some c → 1 ≤ c ∧ c ≤ 4
theorem SvOk.mono {H H' : Hp} {ts : List (Str × Int)} {b : SvE} (h : SvOk H ts b) (m : ∀ b xs, H b = some (.tup xs) → H' b = some (.tup xs)) : SvOk H' ts b := ⟨h.told.mono m, h.ok, h.cap⟩
structure Svcs (H : Hp) (ts : List (Str × Int)) (ks : List KeyE) (ss : List SvE) (n : Nat) : Prop where
  nm : Nms (ss.map (·.name)) n
  ok : ∀ b ∈ ss, SvOk H ts b
  one : (fillE ts ks ss).Nodup
theorem Svcs.mono {H H' : Hp} {ts : List (Str × Int)} {ks : List KeyE} {ss : List SvE} {n : Nat} (h : Svcs H ts ks ss n) (m : ∀ b xs, H b = some (.tup xs) → H' b = some (.tup xs)) : Svcs H' ts ks ss n := ⟨h.nm, fun b hb => (h.ok b hb).mono m, h.one⟩
theorem inV_strs (n : Str) (xs : List Str) : inV (.str n) (xs.map V.str) = decide (n ∈ xs) := by
  unfold inV
  rw [List.any_map]
  apply Bool.eq_iff_iff.mpr
  rw [List.any_eq_true, decide_eq_true_iff]
  constructor
  · rintro ⟨x, hx, e⟩
    have e' : decide (x = n) = true := e
    rw [← of_decide_eq_true e']
    exact hx
  · intro h
    exact ⟨n, h, decide_eq_true rfl⟩
theorem flat_strs (xs : List Str) : (xs.map V.str).all flatV = true := by
  rw [List.all_map, List.all_eq_true]
  intro _ _
  rfl
/-- while the services are made -/
structure SvMade (p t k ca l1 l2 s f : Addr) (ts : List (Str × Int)) (ks : List KeyE) (cps : List (Option Int)) (ns : List Str) (H0 H : Hp) (ss : List SvE) (fl : List Str) : Prop where
  chg : Chg p H0 H
  sv : H s = some (.dK (svK ss))
  fil : H f = some (.lst (fl.map V.str))
  ord : H l1 = some (.lst ((ts.map (·.1)).map V.str))
  nam : H l2 = some (.lst (ns.map V.str))
  tabs : H t = some (.dK (tabK ts))
  keys : H k = some (.dK (keyK ks))
  caps : H ca = some (.lst (cps.map capV))
  kok : Keys H ts ks
  ok : ∀ b ∈ ss, SvOk H ts b
structure SvNe (p t k ca l1 l2 s f : Addr) (H0 : Hp) : Prop where
  s0 : H0 s = none
  f0 : H0 f = none
  sp : s ≠ p
  fp : f ≠ p
  cp : ca ≠ p
  p1 : l1 ≠ p
  p2 : l2 ≠ p
  f1 : l1 ≠ f
  f2 : l2 ≠ f
  fc : ca ≠ f
theorem SvMade.go {p t k ca l1 l2 s f : Addr} {ts : List (Str × Int)} {ks : List KeyE} {cps : List (Option Int)} {ns : List Str} {H0 H H' : Hp} {ss : List SvE} {fl : List Str} (h : SvMade p t k ca l1 l2 s f ts ks cps ns H0 H ss fl) (n : SvNe p t k ca l1 l2 s f H0) (c : Chg p H H') : SvMade p t k ca l1 l2 s f ts ks cps ns H0 H' ss fl := by
  have m := chg_tup h.chg.1 c
  have d : ∀ {b : Addr} {kvs : List (Key × V)}, H b = some (.dK kvs) → H' b = some (.dK kvs) := fun e => c.at (pool_ne h.chg.1 e (by intro _ z; cases z)) e
  exact ⟨h.chg.trans c, d h.sv, c.at n.fp h.fil, c.at n.p1 h.ord, c.at n.p2 h.nam, d h.tabs, d h.keys, c.at n.cp h.caps, h.kok.mono m, fun b hb => (h.ok b hb).mono m⟩
theorem SvMade.same {p t k ca l1 l2 s f : Addr} {ts : List (Str × Int)} {ks : List KeyE} {cps : List (Option Int)} {ns : List Str} {H0 H H' : Hp} {ss : List SvE} {fl : List Str} (h : SvMade p t k ca l1 l2 s f ts ks cps ns H0 H ss fl) (n : SvNe p t k ca l1 l2 s f H0) (c : Same H H') : SvMade p t k ca l1 l2 s f ts ks cps ns H0 H' ss fl :=
  h.go n ⟨h.chg.1.same c, fun b o _ e => c b o e⟩
theorem SvMade.fill {p t k ca l1 l2 s f : Addr} {ts : List (Str × Int)} {ks : List KeyE} {cps : List (Option Int)} {ns : List Str} {H0 H : Hp} {ss : List SvE} {fl gl : List Str} (h : SvMade p t k ca l1 l2 s f ts ks cps ns H0 H ss fl) (n : SvNe p t k ca l1 l2 s f H0) : SvMade p t k ca l1 l2 s f ts ks cps ns H0 (upd H f (.lst (gl.map V.str))) ss gl := by
  have m : ∀ b xs, H b = some (.tup xs) → upd H f (.lst (gl.map V.str)) b = some (.tup xs) := upd_tup h.fil (by intro _ z; cases z)
  have d : ∀ {b : Addr} {kvs : List (Key × V)}, H b = some (.dK kvs) → upd H f (.lst (gl.map V.str)) b = some (.dK kvs) := fun e => by
    rw [upd_ne (ne_of e h.fil (by intro z; cases z))]
    exact e
  exact ⟨h.chg.mut n.f0 n.fp, d h.sv, upd_same, by rw [upd_ne n.f1]; exact h.ord, by rw [upd_ne n.f2]; exact h.nam, d h.tabs, d h.keys, by rw [upd_ne n.fc]; exact h.caps, h.kok.mono m, fun b hb => (h.ok b hb).mono m⟩
theorem SvMade.put {p t k ca l1 l2 s f : Addr} {ts : List (Str × Int)} {ks : List KeyE} {cps : List (Option Int)} {ns : List Str} {H0 H : Hp} {ss : List SvE} {fl : List Str} {b : SvE} (h : SvMade p t k ca l1 l2 s f ts ks cps ns H0 H ss fl) (n : SvNe p t k ca l1 l2 s f H0) (ht : H0 t ≠ none) (hk : H0 k ≠ none) (hb : SvOk H ts b) :
    SvMade p t k ca l1 l2 s f ts ks cps ns H0 (upd H s (.dK (svK (ss ++ [b])))) (ss ++ [b]) fl := by
  have m : ∀ c xs, H c = some (.tup xs) → upd H s (.dK (svK (ss ++ [b]))) c = some (.tup xs) := upd_tup h.sv (by intro _ z; cases z)
  have l : ∀ {c : Addr} {xs : List V}, H c = some (.lst xs) → upd H s (.dK (svK (ss ++ [b]))) c = some (.lst xs) := fun e => by
    rw [upd_ne (ne_of e h.sv (by intro z; cases z))]
    exact e
  have nts : t ≠ s := fun e => ht (by rw [e]; exact n.s0)
  have nks : k ≠ s := fun e => hk (by rw [e]; exact n.s0)
  refine ⟨h.chg.mut n.s0 n.sp, upd_same, l h.fil, l h.ord, l h.nam, by rw [upd_ne nts]; exact h.tabs, by rw [upd_ne nks]; exact h.keys, l h.caps, h.kok.mono m, fun c hc => ?_⟩
  rcases List.mem_append.mp hc with e | e
  · exact (h.ok c e).mono m
  · rw [List.mem_singleton.mp e]
    exact hb.mono m
def spServices : Sp := fun vs H Q _ => ∃ (p t k ca : Addr) (m more : Nat) (ts : List (Str × Int)) (ks : List KeyE) (cps : List (Option Int)), vs = [.ref p, .ref t, .ref k, .ref ca, .int (more : Int)] ∧ PoolAt H p ∧ H t = some (.dK (tabK ts)) ∧ H k = some (.dK (keyK ks)) ∧ Tabs ts m 100 ∧ 1 ≤ m ∧ m + more ≤ 26 ∧ Keys H ts ks ∧
  H ca = some (.lst (cps.map capV)) ∧ ca ≠ p ∧ 1 ≤ cps.length ∧ cps.length ≤ 100 ∧ (∀ c, some c ∈ cps → 1 ≤ c ∧ c ≤ 4) ∧
  ∀ (s : Addr) (ss : List SvE) (H' : Hp), H s = none → H' s = some (.dK (svK ss)) → Svcs H' ts ks ss (m + more) → Chg p H H' → Q (.ref s) H'
end
theorem lc_str {x : Str} {g : TG} {tt : TT} {te : TE} {vs : List Nat} {σ : L2.St} {H1 : Hp} {D : Addr} {Qd : Hp → Prop} (Pv : Nat → Hp → Prop) (h0 : Pv 0 (upd H1 D (.lst [])))
    (hs : ∀ i c H, x.cps[i]? = some c → Pv i H → g (.str ⟨#[c]⟩) (wipe σ vs) H fun σ2 H2 => wipe σ2 vs = wipe σ vs ∧ tt σ2 H2 fun b H3 =>
      if b = true then te σ2 H3 fun y H4 => ∃ acc, H4 D = some (.lst acc) ∧ acc.length < sizeLine ∧ Pv (i + 1) (upd H4 D (.lst (acc ++ [y]))) else Pv (i + 1) H3) (hd : ∀ H, Pv x.cps.size H → Qd H) :
    ∃ W : Nat → Nat → Hp → Prop, (∃ m, W 0 m (upd H1 D (.lst []))) ∧ ∀ i m H, W i m H →
      ((Its x).stop i H ∧ Qd H) ∨ ((Its x).go i H ∧ ∃ Nx : Hp → Prop, (∀ H', Nx H' → ∃ m', m' < m ∧ W (i + 1) m' H') ∧ ∀ v H', (Its x).yld i H v H' → g v (wipe σ vs) H' fun σ2 H2 => wipe σ2 vs = wipe σ vs ∧ tt σ2 H2 fun b H3 =>
        if b = true then te σ2 H3 fun y H4 => ∃ acc, H4 D = some (.lst acc) ∧ acc.length < sizeLine ∧ Nx (upd H4 D (.lst (acc ++ [y]))) else Nx H3) := by
  refine ⟨fun i m H => m = x.cps.size - i ∧ i ≤ x.cps.size ∧ Pv i H, ⟨x.cps.size, by simp, Nat.zero_le _, h0⟩, ?_⟩
  rintro i m H ⟨rfl, hi, p⟩
  by_cases hlt : i < x.cps.size
  · refine .inr ⟨hlt, Pv (i + 1), fun H' p' => ⟨x.cps.size - (i + 1), by omega, rfl, hlt, p'⟩, fun v H' y => ?_⟩
    obtain ⟨e, c, hc, ev⟩ := y
    subst e
    subst ev
    exact hs i c _ hc p
  · have e : i = x.cps.size := by omega
    subst e
    exact .inl ⟨Nat.le_refl _, hd H p⟩
/-! ### words and values -/
def okC (c : Nat) : Bool := decide (97 ≤ c ∧ c ≤ 122)
def wordB (s : Str) : Bool := decide (1 ≤ s.length ∧ s.length ≤ 8) && s.cps.toList.all okC
def wordV : V → Bool
  | .str s => wordB s
  | _ => false
def valV' : V → Bool
  | .int i => decide (-999999999999999999999999999999 ≤ i ∧ i ≤ 999999999999999999999999999999)
  | .str s => wordB s
  | _ => false
inductive Thg (H : Hp) : V → Prop
  | int (i : Int) : Thg H (.int i)
  | bl (b : Bool) : Thg H (.bl b)
  | non : Thg H .non
  | str (s : Str) (h : s.length ≤ 1000) (hc : ∀ c ∈ s.cps.toList, c < 128) : Thg H (.str s)
  | lst {a : Addr} {xs : List V} (e : H a = some (.lst xs)) : Thg H (.ref a)
  | tup {a : Addr} {xs : List V} (e : H a = some (.tup xs)) : Thg H (.ref a)
theorem Thg.same {H H' : Hp} {v : V} (h : Thg H v) (s : Same H H') : Thg H' v := by
  cases h with
  | int i => exact .int i
  | bl b => exact .bl b
  | non => exact .non
  | str s h hc => exact .str s h hc
  | lst e => exact .lst (s _ _ e)
  | tup e => exact .tup (s _ _ e)
def tyInt : V → Bool
  | .int _ => true
  | .bl _ => true
  | _ => false
def tyBool : V → Bool
  | .bl _ => true
  | _ => false
def plainV (v : V) : Bool := tyInt v && !tyBool v
def tyStr : V → Bool
  | .str _ => true
  | _ => false
section
variable {K : PySem.W.Frag} {H : Hp} {v : V} {Q : VK}
theorem Thg.ty (h : Thg H v) : ∃ n, TyX K H v (.type n) ∧ kitB n "int" = some (tyInt v) ∧ kitB n "bool" = some (tyBool v) ∧ kitB n "str" = some (tyStr v) := by
  cases h with
  | int i => exact ⟨_, .base (.int _), show kitB "int" "int" = some true by decide +kernel, show kitB "int" "bool" = some false by decide +kernel, show kitB "int" "str" = some false by decide +kernel⟩
  | bl b => exact ⟨_, .base (.bl _), show kitB "bool" "int" = some true by decide +kernel, show kitB "bool" "bool" = some true by decide +kernel, show kitB "bool" "str" = some false by decide +kernel⟩
  | non => exact ⟨_, .base .non, show kitB "NoneType" "int" = some false by decide +kernel, show kitB "NoneType" "bool" = some false by decide +kernel, show kitB "NoneType" "str" = some false by decide +kernel⟩
  | str s => exact ⟨_, .base (.str _), show kitB "str" "int" = some false by decide +kernel, show kitB "str" "bool" = some false by decide +kernel, show kitB "str" "str" = some true by decide +kernel⟩
  | lst e => exact ⟨_, .base (.lst e), show kitB "list" "int" = some false by decide +kernel, show kitB "list" "bool" = some false by decide +kernel, show kitB "list" "str" = some false by decide +kernel⟩
  | tup e => exact ⟨_, .base (.tup e), show kitB "tuple" "int" = some false by decide +kernel, show kitB "tuple" "bool" = some false by decide +kernel, show kitB "tuple" "str" = some false by decide +kernel⟩
end
def spB (f : V → Bool) : Sp := fun vs H Q _ => ∃ v : V, vs = [v] ∧ Thg H v ∧ ∀ H', Same H H' → Q (.bl (f v)) H'
theorem sgn_le {c : Nat} : ((!decide (([c] : List Nat) < [97])) && (!decide (([122] : List Nat) < [c]))) = okC c := by
  have h1 : (([c] : List Nat) < [97]) ↔ c < 97 := by rw [List.cons_lt_cons_iff]; simp
  have h2 : (([122] : List Nat) < [c]) ↔ 122 < c := by rw [List.cons_lt_cons_iff]; simp
  unfold okC
  simp only [h1, h2]
  by_cases a : c < 97 <;> by_cases b : 122 < c <;> simp [a, b] <;> omega
theorem sgn_in : ∀ {c : Nat}, decide (c ∈ ("abcdefghijklmnopqrstuvwxyz" : Str).cps.toList) = okC c := by
  intro c
  by_cases h : c < 128
  · exact (show ∀ c : Nat, c < 128 → decide (c ∈ ("abcdefghijklmnopqrstuvwxyz" : Str).cps.toList) = okC c by decide +kernel) c h
  · have e1 : okC c = false := by
      unfold okC
      exact decide_eq_false (by omega)
    rw [e1]
    refine decide_eq_false fun hm => ?_
    have := (show ∀ c ∈ ("abcdefghijklmnopqrstuvwxyz" : Str).cps.toList, c < 128 by decide +kernel) c hm
    omega
section
variable {P : Program} {w : World} {K : PySem.W.Frag} {mg : Str → Option Value} {base : Heap} {a : Nat → Addr} {d : Nat → FuncData}
theorem ok_plain (T : Txt K mg a d) : FnOk P w K mg base CX0 1 (a 10) (d 10) ["thing"] (spB plainV) := by
  refine T.F10.ok sc_is_plain_int (fun vs H Q E h => ?_) (fun cdv A outer s H vs Q E hr h => ?_)
  · obtain ⟨v, rfl, _⟩ := h
    rfl
  · obtain ⟨v, rfl, hv, q⟩ := h
    refine ⟨_, (pss_one (ps_ret (pe_and (pe_callB (id := "isinstance")  call_isi (by rfl) T.z_isinstance (by decide +kernel) (pa_cons (pv 0) (pa_cons (pe_bltn (v := .ty "int") (by rfl) T.z_int (by decide +kernel) rfl) pa_nil))) (pe_one (pe_not (pe_callB (id := "isinstance")  call_isi (by rfl) T.z_isinstance (by decide +kernel) (pa_cons (pv 0) (pa_cons (pe_bltn (v := .ty "bool") (by rfl) T.z_bool (by decide +kernel) rfl) pa_nil)))))))), ?_⟩
    obtain ⟨n, ht, k1, k2, k3⟩ := hv.ty (K := K)
    refine ⟨_, rfl, _, _, _, _, _, rfl, .ty _, ht, kit_ty k1, _, rfl, ?_⟩
    have q : Q (.bl (tyInt v && !tyBool v)) H := q H (Same.refl H)
    refine ite2 (fun e => ?_) (fun e => ?_)
    · rw [e] at q
      exact ⟨_, rfl, _, _, _, _, _, rfl, .ty _, ht, kit_ty k2, _, rfl, q⟩
    · rw [Bool.eq_false_iff.mpr e] at q
      exact q
theorem ok_is_word (T : Txt K mg a d) : FnOk P w K mg base CX0 1 (a 11) (d 11) ["thing"] (spB wordV) := by
  refine T.F11.ok sc_is_word (fun vs H Q E h => ?_) (fun cdv A outer s H vs Q E hr h => ?_)
  · obtain ⟨v, rfl, _⟩ := h
    rfl
  · obtain ⟨v, rfl, hv, q⟩ := h
    obtain ⟨t8, h_LONGEST_WORD⟩ := T.c_LONGEST_WORD
    refine ⟨_, (pss_cons (ps_if (PW.pt (pw_or (pt_not (pt_val (pe_callB (id := "isinstance")  call_isi (by rfl) T.z_isinstance (by decide +kernel) (pa_cons (pv 0) (pa_cons (pe_bltn (v := .ty "str") (by rfl) T.z_str (by decide +kernel) rfl) pa_nil))))) (pw_or1 (pt_not (pt_chain op_le op_le pe_int (pe_callB (id := "len")  call_len_str (by rfl) T.z_len (by decide +kernel) (pa_cons (pv 0) pa_nil)) (pe_glob (v := .int (8)) rfl h_LONGEST_WORD ⟨_, rfl⟩))))))
    (pss_one (ps_ret pe_bl))
    pss_nil)
  (pss_one (ps_ret (pe_callB (id := "all")  (cr_all rfl) (by rfl) T.z_all (by decide +kernel) (pa_cons (pe_lc (own := [("letter", 1)]) rfl sc_is_word.nd (pi_str (pv 0)) (blkOk_by (N := ["thing", "letter"]) (sc := defScope s_is_word) (by decide +kernel)) (fun _ _ _ _ _ => pg_name (i := 1) sc_is_word.nd rfl (.inl rfl)) (fun _ _ _ _ _ => pts_nil) (fun _ _ _ _ _ => (pe_chain op_le_str op_le_str pe_str (pv 1) pe_str))) pa_nil))))), ?_⟩
    obtain ⟨n, ht, k1, k2, k3⟩ := hv.ty (K := K)
    refine ⟨_, rfl, _, _, _, _, _, rfl, .ty _, ht, kit_ty k3, _, rfl, ?_⟩
    cases hv with
    | int i => exact q H (Same.refl H)
    | bl i => exact q H (Same.refl H)
    | non => exact q H (Same.refl H)
    | lst e => exact q H (Same.refl H)
    | tup e => exact q H (Same.refl H)
    | str s hl hc =>
      have q : ∀ H', Same H H' → Q (.bl (decide (1 ≤ s.length ∧ s.length ≤ 8) && s.cps.toList.all okC)) H' := q
      refine ⟨_, rfl, _, rfl, small1000' hl, _, _, rfl, rfl, _, rfl, ?_⟩
      refine ite_d (fun h1 => ?_) (fun h1 => ?_)
      · refine ⟨_, _, rfl, rfl, _, rfl, ?_⟩
        refine ite_nd (fun h2 => ?_) (fun h2 => ?_)
        · have e : decide (1 ≤ s.length ∧ s.length ≤ 8) = false := decide_eq_false (by omega)
          rw [e] at q
          exact q H (Same.refl H)
        · have e : decide (1 ≤ s.length ∧ s.length ≤ 8) = true := decide_eq_true (by omega)
          rw [e] at q
          refine ⟨_, rfl, _, rfl, fun D hD => ?_⟩
          refine lc_str (fun i H' => H' D = some (.lst (((s.cps.toList.take i).map okC).map V.bl)) ∧ Same H H') ⟨upd_same, same_upd hD⟩ (fun i c H' hx hp => ?_) (fun H' hp => ?_)
          · have hx' : s.cps.toList[i]? = some c := by rw [Array.getElem?_toList]; exact hx
            have hsz : (((s.cps.toList.take i).map okC).map V.bl).length < sizeLine := by
              rw [List.length_map, List.length_map, List.length_take]
              have : s.cps.toList.length = s.length := Array.length_toList
              exact small1000 (by omega)
            have step : ∀ b, b = okC c → ∀ H3, H3 = H' → (upd H3 D (.lst (((s.cps.toList.take i).map okC).map V.bl ++ [.bl b]))) D = some (.lst (((s.cps.toList.take (i + 1)).map okC).map V.bl)) ∧ Same H (upd H3 D (.lst (((s.cps.toList.take i).map okC).map V.bl ++ [.bl b]))) := fun b eb H3 e3 => by
              subst e3
              refine ⟨?_, fun x o ex => ?_⟩
              · rw [map_take hx', List.map_append, ← eb]
                exact upd_same
              · rw [upd_ne (ne_of_none ex hD)]
                exact hp.2 x o ex
            have e0 : ("a" : Str).cps.toList = [97] := by decide +kernel
            have e9 : ("z" : Str).cps.toList = [122] := by decide +kernel
            have eo := sgn_le (c := c)
            refine ⟨rfl, ?_⟩
            refine ⟨_, rfl, _, _, rfl, rfl, _, rfl, ?_⟩
            refine ite_nd (fun h3 => ?_) (fun h3 => ?_)
            · rw [e0] at h3
              have h3' : ¬ ([c] : List Nat) < [97] := h3
              rw [decide_eq_false h3'] at eo
              refine ⟨_, _, rfl, rfl, _, hp.1, hsz, step _ ?_ _ rfl⟩
              rw [e9]
              exact eo
            · rw [e0] at h3
              have h3' : ([c] : List Nat) < [97] := h3
              rw [decide_eq_true h3'] at eo
              exact ⟨_, hp.1, hsz, step _ eo _ rfl⟩
          · obtain ⟨h3, h4⟩ := hp
            have et : s.cps.toList.take s.cps.size = s.cps.toList := List.take_of_length_le (Nat.le_of_eq Array.length_toList)
            rw [et] at h3
            refine ⟨D, _, rfl, .of h3, ?_⟩
            have ea : ((s.cps.toList.map okC).all id) = s.cps.toList.all okC := by rw [List.all_map]; rfl
            rw [ea]
            exact q H' h4
      · have e : decide (1 ≤ s.length ∧ s.length ≤ 8) = false := decide_eq_false (by omega)
        rw [e] at q
        exact ⟨_, rfl, q H (Same.refl H)⟩
end
section
variable {P : Program} {w : World} {K : PySem.W.Frag} {mg : Str → Option Value} {base : Heap} {a : Nat → Addr} {d : Nat → FuncData}
theorem ok_is_value (T : Txt K mg a d) : FnOk P w K mg base CX0 2 (a 12) (d 12) ["thing"] (spB valV') := by
  have G10 : FnOk P w K mg base CX0 1 (a 10) (d 10) ["thing"] (spB plainV) := ok_plain T
  have G11 : FnOk P w K mg base CX0 1 (a 11) (d 11) ["thing"] (spB wordV) := ok_is_word T
  refine T.F12.ok sc_is_value (fun vs H Q E h => ?_) (fun cdv A outer s H vs Q E hr h => ?_)
  · obtain ⟨v, rfl, _⟩ := h
    rfl
  · obtain ⟨v, rfl, hv, q⟩ := h
    obtain ⟨t9, h_GREATEST_VALUE⟩ := T.c_GREATEST_VALUE
    refine ⟨_, (pss_cons (ps_if (pt_val (pe_call G10 (hr.mono (by decide)) (by rfl) T.g10 T.F10.kp T.b10 .nil pass0 (pa_cons (pv 0) pa_nil)))
    (pss_one (ps_ret (pe_chain op_le op_le (pe_un un_neg (pe_glob (v := .int (999999999999999999999999999999)) rfl h_GREATEST_VALUE ⟨_, rfl⟩)) (pv 0) (pe_glob (v := .int (999999999999999999999999999999)) rfl h_GREATEST_VALUE ⟨_, rfl⟩))))
    pss_nil)
  (pss_one (ps_ret (pe_call G11 (hr.mono (by decide)) (by rfl) T.g11 T.F11.kp T.b11 .nil pass0 (pa_cons (pv 0) pa_nil))))), ?_⟩
    refine ⟨_, rfl, v, rfl, hv, fun H1 s1 => ⟨_, rfl, ?_⟩⟩
    have word : ∀ H1, Same H H1 → valV' v = wordV v → tRet (tCall (spB wordV) [] (fun _ _ _ => False) (tCons (tVar 0) tNil)) { nx := fun _ H' => Q .non H', rt := Q } [some v] H1 := fun H1 s1 ev => ⟨_, rfl, v, rfl, hv.same s1, fun H2 s2 => by
      rw [← ev]
      exact q H2 (s1.trans s2)⟩
    cases hv with
    | int i =>
      refine ⟨_, rfl, _, rfl, _, _, rfl, rfl, _, rfl, ?_⟩
      have q1 := q H1 s1
      refine ite_d (fun h2 => ?_) (fun h2 => ?_)
      · refine ⟨_, _, rfl, rfl, ?_⟩
        have e : decide (i ≤ 999999999999999999999999999999) = decide (-999999999999999999999999999999 ≤ i ∧ i ≤ 999999999999999999999999999999) := by
          by_cases h3 : i ≤ 999999999999999999999999999999
          · rw [decide_eq_true h3, decide_eq_true ⟨h2, h3⟩]
          · rw [decide_eq_false h3, decide_eq_false (fun x => h3 x.2)]
        show Q (.bl (decide (i ≤ 999999999999999999999999999999))) H1
        rw [e]
        exact q1
      · have e : decide (-999999999999999999999999999999 ≤ i ∧ i ≤ 999999999999999999999999999999) = false := decide_eq_false (fun x => h2 x.1)
        have q1 : Q (.bl (decide (-999999999999999999999999999999 ≤ i ∧ i ≤ 999999999999999999999999999999))) H1 := q1
        rw [e] at q1
        exact q1
    | bl b => exact word H1 s1 rfl
    | non => exact word H1 s1 rfl
    | str s h hc => exact word H1 s1 rfl
    | lst e => exact word H1 s1 rfl
    | tup e => exact word H1 s1 rfl
end
theorem paired_snoc {α β : Type} {R : α → β → Prop} {x : α} {y : β} : ∀ {xs : List α} {ys : List β}, Paired R xs ys → R x y → Paired R (xs ++ [x]) (ys ++ [y])
  | _, _, .nil, h => .cons h .nil
  | _, _, .cons r t, h => .cons r (paired_snoc t h)
/-! ### rows of values: their order -/
abbrev RowK := List Key
def item : Key → Int ⊕ List Nat
  | .inl i => .inl i
  | .inr s => .inr s.cps.toList
theorem item_inj {a b : Key} (h : item a = item b) : a = b := by
  cases a <;> cases b
  · exact congrArg Sum.inl (Sum.inl.inj h)
  · cases h
  · cases h
  · rename_i x y
    have e : x.cps.toList = y.cps.toList := Sum.inr.inj h
    have e2 : x = y := by
      cases x
      cases y
      exact congrArg Str.mk (Array.toList_inj.mp e)
    rw [e2]
def toks (r : RowK) : List (Int ⊕ List Nat) := r.map item
def rowLt (a b : RowK) : Bool := PyProof.Rows.lexLt PyProof.Rows.itemOrd (toks a) (toks b)
def isStrK : Key → Bool
  | .inl _ => false
  | .inr _ => true
def keyD : Key → PyData
  | .inl i => .int i
  | .inr s => .str s
def pairD (k : Key) : PyData := .tuple [.bool (isStrK k), keyD k]
def rowD (r : RowK) : PyData := .tuple (r.map pairD)
def tokP : PyData → Int ⊕ List Nat
  | .tuple [_, .int i] => .inl i
  | .tuple [_, .str s] => .inr s.cps.toList
  | _ => .inl 0
def tokD : PyData → List (Int ⊕ List Nat)
  | .tuple ps => ps.map tokP
  | _ => []
theorem tokP_pair (k : Key) : tokP (pairD k) = item k := by cases k <;> rfl
theorem tokD_row (r : RowK) : tokD (rowD r) = toks r := by
  show (r.map pairD).map tokP = r.map item
  rw [List.map_map]
  exact List.map_congr_left fun k _ => tokP_pair k
theorem eqv_key (x y : Key) : PyData.eqv (keyD x) (keyD y) = decide (x = y) := by
  cases x <;> cases y <;> simp [keyD, PyData.eqv]
  · rename_i a b
    exact Bool.eq_iff_iff.mpr (by simp)
  · rename_i a b
    exact Bool.eq_iff_iff.mpr (by simp)
theorem eqv_pair (x y : Key) : PyData.eqv (pairD x) (pairD y) = decide (x = y) := by
  have h := eqv_key x y
  unfold pairD
  simp only [PyData.eqv, PyData.eqvAll, h, Bool.and_true]
  cases x <;> cases y <;> simp [isStrK]
theorem ok_pair {x y : Key} (h : x ≠ y) : SK.okLt (pairD x) (pairD y) = true := by
  have hk := eqv_key x y
  rw [decide_eq_false h] at hk
  cases x <;> cases y <;> simp [pairD, SK.okLt, SK.okAll, isStrK, PyData.eqv] <;> first | trivial | (rw [hk]; simp [keyD, SK.okLt])
theorem lt_pair {x y : Key} (h : x ≠ y) : SK.ltD (pairD x) (pairD y) = PyProof.Rows.itemLt (item x) (item y) := by
  have hk := eqv_key x y
  rw [decide_eq_false h] at hk
  cases x <;> cases y <;> simp [pairD, SK.ltD, SK.ltAll, isStrK, PyData.eqv]
  · rw [hk]
    simp [keyD, SK.ltD, item, PyProof.Rows.itemLt]
  · simp only [item, PyProof.Rows.itemLt]
    decide
  · simp only [item, PyProof.Rows.itemLt]
    decide
  · rw [hk]
    simp [keyD, SK.ltD, item, PyProof.Rows.itemLt, PyProof.Rows.strKind]
theorem item_total {x y : Key} (h : x ≠ y) : PyProof.Rows.itemLt (item y) (item x) = !PyProof.Rows.itemLt (item x) (item y) := by
  have a : PyProof.Rows.itemLt (item x) (item y) = false → PyProof.Rows.itemLt (item y) (item x) = false → item x = item y := PyProof.Rows.itemOrd.total _ _
  have b : PyProof.Rows.itemLt (item x) (item y) = true → PyProof.Rows.itemLt (item y) (item x) = true → False := fun h1 h2 => by
    have h3 := PyProof.Rows.itemOrd.trans _ _ _ h1 h2
    rw [PyProof.Rows.itemOrd.irrefl] at h3
    cases h3
  cases h1 : PyProof.Rows.itemLt (item x) (item y) <;> cases h2 : PyProof.Rows.itemLt (item y) (item x)
  · exact absurd (item_inj (a h1 h2)) h
  · rfl
  · rfl
  · exact (b h1 h2).elim
theorem rowLt_cons (x y : Key) (r t : RowK) : rowLt (x :: r) (y :: t) = if x = y then rowLt r t else PyProof.Rows.itemLt (item x) (item y) := by
  show (PyProof.Rows.itemLt (item x) (item y) || (!PyProof.Rows.itemLt (item y) (item x) && rowLt r t)) = _
  by_cases h : x = y
  · subst h
    rw [if_pos rfl, show PyProof.Rows.itemLt (item x) (item x) = false from PyProof.Rows.itemOrd.irrefl _]
    simp
  · rw [if_neg h, item_total h]
    cases PyProof.Rows.itemLt (item x) (item y) <;> simp
theorem ok_rows : ∀ a b : RowK, SK.okAll (a.map pairD) (b.map pairD) = true
  | [], _ => by cases ‹RowK› <;> simp [SK.okAll]
  | _ :: _, [] => by simp [SK.okAll]
  | x :: r, y :: t => by
    simp only [List.map_cons, SK.okAll, eqv_pair]
    by_cases h : x = y
    · rw [decide_eq_true h, if_pos rfl]
      exact ok_rows r t
    · rw [decide_eq_false h, if_neg (by decide)]
      exact ok_pair h
theorem lt_rows : ∀ a b : RowK, SK.ltAll (a.map pairD) (b.map pairD) = rowLt a b
  | [], [] => by simp [SK.ltAll, rowLt, toks, PyProof.Rows.lexLt]
  | [], _ :: _ => by simp [SK.ltAll, rowLt, toks, PyProof.Rows.lexLt]
  | _ :: _, [] => by simp [SK.ltAll, rowLt, toks, PyProof.Rows.lexLt]
  | x :: r, y :: t => by
    rw [rowLt_cons]
    simp only [List.map_cons, SK.ltAll, eqv_pair]
    by_cases h : x = y
    · rw [decide_eq_true h, if_pos rfl, if_pos h]
      exact lt_rows r t
    · rw [decide_eq_false h, if_neg (by decide), if_neg h]
      exact lt_pair h
theorem toks_inj : ∀ {a b : RowK}, toks a = toks b → a = b
  | [], [], _ => rfl
  | [], _ :: _, h => by cases h
  | _ :: _, [], h => by cases h
  | x :: r, y :: t, h => by
    have h1 : item x = item y := (List.cons.inj h).1
    have h2 : toks r = toks t := (List.cons.inj h).2
    rw [item_inj h1, toks_inj h2]
theorem rowLt_total {a b : RowK} (h1 : rowLt a b = false) (h2 : rowLt b a = false) : a = b := toks_inj ((PyProof.Rows.listOrd PyProof.Rows.itemOrd).total _ _ h1 h2)
theorem rowLt_trans {a b c : RowK} (h1 : rowLt a b = true) (h2 : rowLt b c = true) : rowLt a c = true := (PyProof.Rows.listOrd PyProof.Rows.itemOrd).trans _ _ _ h1 h2
theorem rowLt_irrefl (a : RowK) : rowLt a a = false := (PyProof.Rows.listOrd PyProof.Rows.itemOrd).irrefl _
theorem rowLt_neg {a b c : RowK} (h : rowLt a c = true) : rowLt a b = true ∨ rowLt b c = true := (PyProof.Rows.listOrd PyProof.Rows.itemOrd).negTrans _ _ _ h
/-- what may stand in a row: an int, a text of true code points -/
def KOk : Key → Prop
  | .inl _ => True
  | .inr s => PyData.strOk s = true
theorem lay_pair {k : Key} (h : KOk k) : (pairD k).canLay0 = true := by
  cases k with
  | inl i => simp [pairD, keyD, PyData.canLay0, PyData.canLayAll0]
  | inr s =>
    have h' : PyData.strOk s = true := h
    simp [pairD, keyD, PyData.canLay0, PyData.canLayAll0, h']
theorem lay_pairs : ∀ {r : RowK}, (∀ k ∈ r, KOk k) → PyData.canLayAll0 (r.map pairD) = true
  | [], _ => by simp [PyData.canLayAll0]
  | k :: r, h => by
    simp only [List.map_cons, PyData.canLayAll0, lay_pair (h k List.mem_cons_self), lay_pairs fun x hx => h x (List.mem_cons_of_mem _ hx), Bool.and_self]
theorem depth_pair (k : Key) : (pairD k).depth = 1 := by cases k <;> simp [pairD, keyD, PyData.depth, PyData.depthAll]
theorem depth_pairs : ∀ r : RowK, PyData.depthAll (r.map pairD) ≤ 1
  | [] => by simp [PyData.depthAll]
  | k :: r => by
    simp only [List.map_cons, PyData.depthAll, depth_pair]
    have := depth_pairs r
    omega
theorem rowD_depth (r : RowK) : (rowD r).depth ≤ 2 := by
  show PyData.depthAll (r.map pairD) + 1 ≤ 2
  have := depth_pairs r
  omega
theorem keys_rows (rs : List RowK) (h : ∀ r ∈ rs, ∀ k ∈ r, KOk k) : SK.Keys (rs.map rowD) tokD where
  lay d hd := by
    obtain ⟨r, hr, rfl⟩ := List.mem_map.mp hd
    show PyData.canLay0 (.tuple (r.map pairD)) = true
    simp only [PyData.canLay0]
    exact lay_pairs (h r hr)
  tup d hd := by
    obtain ⟨r, hr, rfl⟩ := List.mem_map.mp hd
    exact ⟨_, rfl⟩
  ok d hd d' hd' := by
    obtain ⟨r, hr, rfl⟩ := List.mem_map.mp hd
    obtain ⟨t, ht, rfl⟩ := List.mem_map.mp hd'
    show SK.okLt (.tuple (r.map pairD)) (.tuple (t.map pairD)) = true
    simp only [SK.okLt]
    exact ok_rows r t
  lt d hd d' hd' := by
    obtain ⟨r, hr, rfl⟩ := List.mem_map.mp hd
    obtain ⟨t, ht, rfl⟩ := List.mem_map.mp hd'
    rw [tokD_row, tokD_row]
    show SK.ltD (.tuple (r.map pairD)) (.tuple (t.map pairD)) = rowLt r t
    simp only [SK.ltD]
    exact lt_rows r t
  ty x r y t hx hy := by
    obtain ⟨a, ha, ea⟩ := List.mem_map.mp hx
    obtain ⟨b, hb, eb⟩ := List.mem_map.mp hy
    have first : ∀ (a : RowK) x r, rowD a = .tuple (x :: r) → ∃ ps, x = .tuple ps := fun a x r e => by
      cases a with
      | nil => cases e
      | cons k a =>
        have e' : PyData.tuple (pairD k :: a.map pairD) = .tuple (x :: r) := e
        injection e' with e'
        exact ⟨_, (List.cons.inj e').1.symm⟩
    obtain ⟨p1, rfl⟩ := first a x r ea
    obtain ⟨p2, rfl⟩ := first b y t eb
    rfl
/-! ### rows in the heap -/
/-- p is the tuple r -/
abbrev RowAt (H : Hp) (p : Addr) (r : RowK) : Prop := H p = some (.tup (r.map kV))
abbrev RowsAt (H : Hp) (L : List (Addr × RowK)) : Prop := ∀ b ∈ L, RowAt H b.1 b.2
theorem RowsAt.same {H H' : Hp} {L : List (Addr × RowK)} (h : RowsAt H L) (s : ∀ b o, H b = some o → H' b = some o) : RowsAt H' L := fun b hb => s _ _ (h b hb)
theorem snoc_ind {α : Type} {P : List α → Prop} (h0 : P []) (h1 : ∀ l a, P l → P (l ++ [a])) : ∀ l, P l := by
  intro l
  rw [← List.reverse_reverse l]
  induction l.reverse with
  | nil => exact h0
  | cons a t ih =>
    rw [List.reverse_cons]
    exact h1 _ _ ih
/-- the different rows, in the order of their first places -/
def add1 (acc : List RowK) (r : RowK) : List RowK := if (acc.any fun k => decide (k = r)) = true then acc else acc ++ [r]
def uniq (rs : List RowK) : List RowK := rs.foldl add1 []
theorem any_mem {acc : List RowK} {r : RowK} : (acc.any fun k => decide (k = r)) = true ↔ r ∈ acc := by
  rw [List.any_eq_true]
  constructor
  · rintro ⟨x, hx, e⟩
    rw [← of_decide_eq_true e]
    exact hx
  · exact fun h => ⟨r, h, decide_eq_true rfl⟩
theorem putK_uniq (ks : List RowK) (r : RowK) : (putK (ks.map fun k => (k, V.bl true)) r (.bl true)) = (add1 ks r).map fun k => (k, V.bl true) := by
  unfold putK add1
  have e : ((ks.map fun k => (k, V.bl true)).any fun kv => decide (kv.1 = r)) = (ks.any fun k => decide (k = r)) := by rw [List.any_map]; rfl
  rw [e]
  split
  · rw [List.map_map]
    exact List.map_congr_left fun k _ => by
      by_cases q : k = r
      · simp [q]
      · simp [q]
  · rw [List.map_append]
    rfl
theorem uniq_snoc (rs : List RowK) (r : RowK) : uniq (rs ++ [r]) = add1 (uniq rs) r := by
  unfold uniq
  rw [List.foldl_append]
  rfl
theorem uniq_all : ∀ rs : List RowK, (uniq rs).Nodup ∧ ∀ r, r ∈ uniq rs ↔ r ∈ rs := snoc_ind ⟨List.nodup_nil, fun r => Iff.rfl⟩ fun l a ih => by
  obtain ⟨h1, h2⟩ := ih
  rw [uniq_snoc]
  unfold add1
  by_cases h : ((uniq l).any fun k => decide (k = a)) = true
  · rw [if_pos h]
    refine ⟨h1, fun r => ?_⟩
    rw [h2, List.mem_append, List.mem_singleton]
    exact ⟨.inl, fun q => q.elim id fun e => by rw [e, ← h2]; exact any_mem.mp h⟩
  · rw [if_neg h]
    have h' : ¬ a ∈ uniq l := fun q => h (any_mem.mpr q)
    refine ⟨List.nodup_append.mpr ⟨h1, List.nodup_cons.mpr ⟨by simp, List.nodup_nil⟩, fun x hx y hy e => ?_⟩, fun r => ?_⟩
    · rw [List.mem_singleton.mp hy] at e
      exact h' (e ▸ hx)
    · rw [List.mem_append, List.mem_append, h2]
theorem uniq_len : ∀ rs : List RowK, (uniq rs).length ≤ rs.length := snoc_ind (Nat.le_refl _) fun l a ih => by
  rw [uniq_snoc, List.length_append]
  unfold add1
  split
  · exact Nat.le_succ_of_le ih
  · rw [List.length_append]
    exact Nat.add_le_add_right ih 1
/-- the rows sorted: each once, each before the next -/
structure SortedRows (L : List (Addr × RowK)) (rs : List RowK) : Prop where
  all : ∀ r, r ∈ L.map (·.2) ↔ r ∈ rs
  up : L.Pairwise fun a b => rowLt a.2 b.2 = true
  len : L.length ≤ rs.length
section
variable {P : Program} {w : World} {K : PySem.W.Frag} {mg : Str → Option Value} {base : Heap} {a : Nat → Addr} {d : Nat → FuncData}
/-! ### row_key, sorted_rows -/
def spRK : Sp := fun vs H Q _ => ∃ (p : Addr) (r : RowK), vs = [.ref p] ∧ RowAt H p r ∧ r.length ≤ 100 ∧ ∀ (K : PySem.W.Frag) (v : V) (H' : Hp), (∀ K : PySem.W.Frag, Dp K H' v (rowD r)) → Same H H' → Q v H'
theorem kb_int_str : kitB "int" "str" = some false := by decide +kernel
theorem kb_str_str : kitB "str" "str" = some true := by decide +kernel
theorem dp_pairs {K : PySem.W.Frag} {H : Hp} : ∀ {ps : List Addr} {r : RowK}, Paired (fun p k => H p = some (.tup [V.bl (isStrK k), kV k])) ps r → DpAll K H (ps.map V.ref) (r.map pairD)
  | _, _, .nil => .nil
  | _, _, .cons (b := k) h t => .cons (.tup (.of h) (.cons (.bl _) (.cons (by cases k <;> first | exact .int _ | exact .str _) .nil))) (dp_pairs t)
def spSR (K : PySem.W.Frag) : Sp := fun vs H Q _ => ∃ (l : Addr) (L : List (Addr × RowK)), vs = [.ref l] ∧ SqL K H l (L.map fun b => V.ref b.1) ∧ RowsAt H L ∧ (∀ b ∈ L, (∀ k ∈ b.2, KOk k) ∧ b.2.length ≤ 100) ∧ L.length ≤ 10000 ∧
  ∀ (q : Addr) (H' : Hp) (L' : List (Addr × RowK)), H q = none → Same H H' → H' q = some (.lst (L'.map fun b => V.ref b.1)) → RowsAt H' L' → SortedRows L' (L.map (·.2)) → Q (.ref q) H'
theorem keys_zip {H : Hp} : ∀ {us : List RowK} {bs : List Addr}, Paired (fun (p : RowK × V) b => H b = some (.tup (p.1.map kV))) (us.map fun k => (k, V.bl true)) bs → ∃ L : List (Addr × RowK), L.map (·.1) = bs ∧ L.map (·.2) = us ∧ RowsAt H L
  | [], _, .nil => ⟨[], rfl, rfl, fun b hb => by cases hb⟩
  | u :: us, _, .cons (b := b) h t => by
    obtain ⟨L, e1, e2, e3⟩ := keys_zip t
    refine ⟨(b, u) :: L, by rw [List.map_cons, e1], by rw [List.map_cons, e2], fun x hx => ?_⟩
    rcases List.mem_cons.mp hx with rfl | hx
    · exact h
    · exact e3 x hx
theorem byKey_rows (L : List (Addr × RowK)) (hn : (L.map (·.2)).Nodup) : ∃ L' : List (Addr × RowK), SK.byKey tokD (L.map fun b => V.ref b.1) (L.map fun b => rowD b.2) = L'.map (fun b => V.ref b.1) ∧ L'.Perm L ∧ L'.Pairwise fun a b => rowLt a.2 b.2 = true := by
  refine ⟨L.mergeSort fun a b => !rowLt b.2 a.2, ?_, List.mergeSort_perm _ _, ?_⟩
  · unfold SK.byKey
    rw [List.zip_map', ← List.map_mergeSort (r := fun a b : Addr × RowK => !rowLt b.2 a.2) (f := fun b : Addr × RowK => ((V.ref b.1, rowD b.2) : V × PyData)), List.map_map]
    · rfl
    · intro a _ b _
      show _ = (!(PyProof.Rows.listOrd PyProof.Rows.itemOrd).blt (tokD (rowD b.2)) (tokD (rowD a.2)))
      rw [tokD_row, tokD_row]
      rfl
  · have h1 := List.pairwise_mergeSort (le := fun a b : Addr × RowK => !rowLt b.2 a.2) (fun a b c x y => ?_) (fun a b => ?_) L
    · have h2 : ((L.mergeSort fun a b => !rowLt b.2 a.2).map (·.2)).Nodup := ((List.mergeSort_perm L _).map _).nodup_iff.mpr hn
      refine (h1.and (List.pairwise_map.mp h2)).imp fun {a b} hab => ?_
      cases h3 : rowLt a.2 b.2 with
      | true => rfl
      | false => exact absurd (rowLt_total h3 (by simpa using hab.1)) hab.2
    · simp only [Bool.not_eq_true'] at x y ⊢
      cases h3 : rowLt c.2 a.2 with
      | false => rfl
      | true => rcases rowLt_neg (b := b.2) h3 with h | h
                · rw [y] at h
                  cases h
                · rw [x] at h
                  cases h
    · cases h3 : rowLt b.2 a.2 with
      | false => rfl
      | true =>
        have h4 : rowLt a.2 b.2 = false := by
          cases h5 : rowLt a.2 b.2 with
          | false => rfl
          | true =>
            have := rowLt_trans h3 h5
            rw [rowLt_irrefl] at this
            cases this
        rw [h4]
        rfl
end
/-! ### rows as data -/
theorem item_kinds {x y : Key} (h : isStrK x ≠ isStrK y) : PyProof.Rows.itemLt (item x) (item y) = isStrK y := by
  cases x <;> cases y <;> first | exact absurd rfl h | rfl
theorem lay_key {k : Key} (h : KOk k) : (keyD k).canLay0 = true := by
  cases k with
  | inl i => simp [keyD, PyData.canLay0]
  | inr s =>
    have h' : PyData.strOk s = true := h
    simp [keyD, PyData.canLay0, h']
theorem key_shaped {k : Key} (h : KOk k) : SeqAt.shaped (keyD k) = true := by
  unfold SeqAt.shaped
  rw [lay_key h]
  cases k <;> simp [keyD, PyData.depth]
theorem dp_key {K : PySem.W.Frag} {H : Hp} (k : Key) : Dp K H (kV k) (keyD k) := by
  cases k
  · exact .int _
  · exact .str _
theorem eqv_nil (ds : List PyData) : PyData.eqv (.list ds) (.list []) = ds.isEmpty := by
  cases ds <;> simp [PyData.eqv, PyData.eqvAll]
/-- a row as data -/
def tupD (r : RowK) : PyData := .tuple (r.map keyD)
theorem eqvAll_keys : ∀ a b : RowK, PyData.eqvAll (a.map keyD) (b.map keyD) = decide (a = b)
  | [], [] => by simp [PyData.eqvAll]
  | [], _ :: _ => by simp [PyData.eqvAll]
  | _ :: _, [] => by simp [PyData.eqvAll]
  | x :: a, y :: b => by
    simp only [List.map_cons, PyData.eqvAll, eqv_key, eqvAll_keys a b]
    by_cases h1 : x = y <;> by_cases h2 : a = b <;> simp [h1, h2]
theorem eqv_tup (a b : RowK) : PyData.eqv (tupD a) (tupD b) = decide (a = b) := by
  show PyData.eqv (.tuple (a.map keyD)) (.tuple (b.map keyD)) = _
  simp only [PyData.eqv]
  exact eqvAll_keys a b
theorem dp_keys {K : PySem.W.Frag} {H : Hp} : ∀ r : RowK, DpAll K H (r.map kV) (r.map keyD)
  | [] => .nil
  | k :: r => .cons (dp_key k) (dp_keys r)
theorem dp_tup {K : PySem.W.Frag} {H : Hp} {p : Addr} {r : RowK} (h : RowAt H p r) : Dp K H (.ref p) (tupD r) := .tup (.of h) (dp_keys r)
theorem lay_keys : ∀ {r : RowK}, (∀ k ∈ r, KOk k) → PyData.canLayAll0 (r.map keyD) = true ∧ PyData.depthAll (r.map keyD) = 0
  | [], _ => by simp [PyData.canLayAll0, PyData.depthAll]
  | k :: r, h => by
    obtain ⟨h1, h2⟩ := lay_keys (r := r) fun x hx => h x (List.mem_cons_of_mem _ hx)
    simp only [List.map_cons, PyData.canLayAll0, PyData.depthAll, lay_key (h k List.mem_cons_self), h1, h2, Bool.and_self, true_and]
    cases k <;> simp [keyD, PyData.depth]
theorem tup_shaped {r : RowK} (h : ∀ k ∈ r, KOk k) : SeqAt.shaped (tupD r) = true := by
  obtain ⟨h1, h2⟩ := lay_keys h
  show ((PyData.tuple (r.map keyD)).canLay0 && decide ((PyData.tuple (r.map keyD)).depth ≤ 64)) = true
  simp only [PyData.canLay0, PyData.depth, h1, h2]
  decide
theorem lay_tups : ∀ {rs : List RowK}, (∀ r ∈ rs, ∀ k ∈ r, KOk k) → PyData.canLayAll0 (rs.map tupD) = true ∧ PyData.depthAll (rs.map tupD) ≤ 1
  | [], _ => by simp [PyData.canLayAll0, PyData.depthAll]
  | r :: rs, h => by
    obtain ⟨h1, h2⟩ := lay_tups (rs := rs) fun x hx => h x (List.mem_cons_of_mem _ hx)
    obtain ⟨h3, h4⟩ := lay_keys (h r List.mem_cons_self)
    simp only [List.map_cons, PyData.canLayAll0, PyData.depthAll, h1, Bool.and_true]
    refine ⟨?_, ?_⟩
    · show (PyData.tuple (r.map keyD)).canLay0 = true
      simp only [PyData.canLay0, h3]
    · have : (tupD r).depth = 1 := by
        show (PyData.tuple (r.map keyD)).depth = 1
        simp only [PyData.depth, h4]
      omega
theorem tups_shaped {rs : List RowK} (h : ∀ r ∈ rs, ∀ k ∈ r, KOk k) : SeqAt.shaped (.list (rs.map tupD)) = true := by
  obtain ⟨h1, h2⟩ := lay_tups h
  unfold SeqAt.shaped
  simp only [PyData.canLay0, PyData.depth, h1, Bool.true_and]
  exact decide_eq_true (by omega)
theorem dp_rows {K : PySem.W.Frag} {H : Hp} : ∀ {L : List (Addr × RowK)}, RowsAt H L → DpAll K H (L.map fun b => V.ref b.1) ((L.map (·.2)).map tupD)
  | [], _ => .nil
  | b :: L, h => .cons (dp_tup (h b List.mem_cons_self)) (dp_rows fun x hx => h x (List.mem_cons_of_mem _ hx))
theorem any_tup (rs : List RowK) (r : RowK) : ((rs.map tupD).any fun z => PyData.eqv z (tupD r)) = rs.any fun k => decide (k = r) := by
  rw [List.any_map]
  have e : ((fun z => PyData.eqv z (tupD r)) ∘ tupD) = fun k => decide (k = r) := funext fun k => eqv_tup k r
  rw [e]
theorem nd_sub {α : Type} [DecidableEq α] : ∀ {xs ys : List α}, xs.Nodup → (∀ x ∈ xs, x ∈ ys) → xs.length ≤ ys.length ∧ (ys.length ≤ xs.length → ∀ y ∈ ys, y ∈ xs)
  | [], ys, _, _ => ⟨Nat.zero_le _, fun h y hy => by
    have : ys = [] := List.length_eq_zero_iff.mp (Nat.le_zero.mp h)
    rw [this] at hy
    exact hy⟩
  | x :: xs, ys, nd, sub => by
    obtain ⟨n1, n2⟩ := List.nodup_cons.mp nd
    have hx := sub x List.mem_cons_self
    have hl := List.length_erase_of_mem hx
    have hpos : 0 < ys.length := List.length_pos_of_mem hx
    have ih := nd_sub (ys := ys.erase x) n2 fun z hz => (List.mem_erase_of_ne (fun e => n1 (by rw [← e]; exact hz))).mpr (sub z (List.mem_cons_of_mem _ hz))
    refine ⟨by rw [List.length_cons]; omega, fun h y hy => ?_⟩
    rw [List.length_cons] at h
    by_cases e : y = x
    · rw [e]
      exact List.mem_cons_self
    · exact List.mem_cons_of_mem _ (ih.2 (by omega) y ((List.mem_erase_of_ne e).mpr hy))
theorem same_mut {H H1 : Hp} {D : Addr} {o : HO} (s : Same H H1) (h : H D = none) : Same H (upd H1 D o) := fun b u e => by
  rw [upd_ne (ne_of_none e h)]
  exact s b u e
theorem sv_nd {H : Hp} {ts : List (Str × Int)} {ks : List KeyE} {ss : List SvE} {n : Nat} (h : Svcs H ts ks ss n) : ((svK ss).map (·.1)).Nodup := by
  rw [keys_sv]
  exact inr_nd h.nm.nd
theorem Tabs.up {ts : List (Str × Int)} {m : Nat} {w v : Int} (h : Tabs ts m w) (hv : w ≤ v) : Tabs ts m v := ⟨h.nm, fun p hp => ⟨(h.wd p hp).1, Int.le_trans (h.wd p hp).2 hv⟩⟩
theorem wd_b {s : Str} (h : Wd s) : wordB s = true := by
  unfold wordB
  rw [decide_eq_true (show 1 ≤ s.length ∧ s.length ≤ 8 from ⟨h.1, h.2.1⟩), Bool.true_and, List.all_eq_true]
  intro c hc
  unfold okC
  exact decide_eq_true (h.2.2 c hc)
theorem wd_thg {H : Hp} {s : Str} (h : Wd s) : Thg H (.str s) := .str s (by have := h.2.1; omega) fun c hc => by have := (h.2.2 c hc).2; omega
theorem capV_none' {cap : Option Int} (h : cap.isNone = true) : capV cap = .non := by
  cases cap with
  | none => rfl
  | some c => cases h
theorem all_bls (bs : List Bool) : (bs.all id) = bs.all fun b => b := rfl
def spIsWh : Sp := fun vs H Q _ => ∃ (v t k ga : Addr) (n : Str) (cs : List Int) (cap : Option Int) (w : Int) (ts : List (Str × Int)) (ks : List KeyE) (m : Nat), vs = [.ref v, .ref t, .ref k] ∧ Told H v n ga cs cap ∧ DctAt H t (tabK ts) ∧ DctAt H k (keyK ks) ∧ Tabs ts m 4 ∧ Keys H ts ks ∧ (n, w) ∈ ts ∧ cs.length ≤ 100 ∧
  ∀ H', Same H H' → Q (.bl (isWh w ks n cs cap)) H'
section
variable {P : Program} {w : World} {K : PySem.W.Frag} {mg : Str → Option Value} {base : Heap} {a : Nat → Addr} {d : Nat → FuncData}
theorem ok_is_wh (T : Txt K mg a d) : FnOk P w K mg base CX0 1 (a 42) (d 42) ["service", "tables", "keys"] spIsWh := by
  refine T.F42.ok sc__is_whole_service (fun vs H Q E h => ?_) (fun cdv A outer s H vs Q E hr h => ?_)
  · obtain ⟨v, t, k, ga, n, cs, cap, w, ts, ks, m, rfl, _⟩ := h
    rfl
  · obtain ⟨v, t, k, ga, n, cs, cap, w, ts, ks, m, rfl, hv, ht, hk, hT, hK, hm, hl, q⟩ := h
    have fin : ∀ b : Bool, b = isWh w ks n cs cap → ∀ H', Same H H' → Q (.bl b) H' := fun b e H' s => by
      rw [e]
      exact q H' s
    have g := ht.get (tab_nd hT) (Sum.inr n)
    rw [tab_val hT hm] at g
    have gk := fun (H' : Hp) (s : Same H H') => (hk.same s).get (key_nd hT hK) (Sum.inr n)
    rw [keyAt_val] at gk
    refine ⟨_, (pss_cons (ps_asg (pv 0) (pg_tup rfl (pgs_cons (pg_name (i := 3) sc__is_whole_service.nd rfl (.inl rfl)) (pgs_cons (pg_name (i := 4) sc__is_whole_service.nd rfl (.inr rfl)) (pgs_cons (pg_name (i := 5) sc__is_whole_service.nd rfl (.inl rfl)) pgs_nil)))))
  (pss_cons (ps_if (PW.pt (pw_or (pt_cmpR op_isN (pv 5) pe_non (nomark _)) (pw_or1 (pt_cmpR op_eq (pe_callB (id := "len")  call_len_seq (by rfl) T.z_len (by decide +kernel) (pa_cons (pv 4) pa_nil)) (pe_dget (hu_of hr) (pv 1) (pv 3) (fun _ _ => rfl)) (nomark _)))))
    (pss_one (ps_ret pe_bl))
    pss_nil)
  (pss_one (ps_ret (pe_and (pe_cmp (pc_din (hu_of hr) (pv 3) (pv 2)) rfl) (pe_one (pe_callB (id := "all")  (cr_all rfl) (by rfl) T.z_all (by decide +kernel) (pa_cons (pe_lc (own := [("column", 6)]) rfl sc__is_whole_service.nd (pi_tup (pe_dget (hu_of hr) (pv 2) (pv 3) (fun _ _ => rfl))) (blkOk_by (N := ["service", "tables", "keys", "table", "given", "cap", "column"]) (sc := defScope s__is_whole_service) (by decide +kernel)) (fun _ _ _ _ _ => pg_name (i := 6) sc__is_whole_service.nd rfl (.inl rfl)) (fun _ _ _ _ _ => pts_nil) (fun _ _ _ _ _ => (pe_cmpR (r := rIn K false) op_in_seq (pv 6) (pv 4) (by rfl)))) pa_nil)))))))), ?_⟩
    refine ⟨_, rfl, v, _, rfl, .of hv.tup, rfl, _, _, rfl, _, _, rfl, _, _, rfl, rfl, ?_⟩
    refine ⟨_, rfl, rfl, _, rfl, ?_⟩
    rw [capV_none]
    cases e1 : cap.isNone with
    | true => exact fin true (by unfold isWh; rw [e1]; rfl) H (fun _ _ e => e)
    | false =>
      refine ⟨_, rfl, _, _, rfl, .inr (.of hv.cols), _, rfl, _, rfl, t, _, rfl, g, rfl, _, rfl, ?_⟩
      rw [List.length_map]
      refine ite_eqI (fun e2 => ?_) (fun e2 => ?_)
      · exact fin true (by unfold isWh; rw [e1, decide_eq_true e2]; rfl) H (fun _ _ e => e)
      · refine ⟨_, rfl, _, rfl, k, _, rfl, gk H (Same.refl H), _, rfl, ?_⟩
        cases e3 : keyAt ks n with
        | none => exact fin false (by unfold isWh; rw [e1, decide_eq_false e2, e3]; rfl) H (fun _ _ e => e)
        | some b =>
          rw [e3] at gk
          obtain ⟨bm, bn⟩ := keyAt_mem e3
          have hb := hK.at_ b bm
          obtain ⟨w', hw', hcols', hl1, hl2⟩ := hK.ok b bm
          have hw2 := (hT.wd _ hw').2
          refine ⟨_, rfl, _, rfl, k, _, rfl, gk H (Same.refl H), b.2.1, rfl, ⟨_, .of hb⟩, fun D hD => ?_⟩
          refine lc_tup (K := K) (a := b.2.1) (xs := b.2.2.map V.int) (fun i H' => H' D = some (.lst (((b.2.2.take i).map fun c => decide (c ∈ cs)).map V.bl)) ∧ Same H H') ⟨upd_same, same_upd hD⟩ (fun i H' _ hp => .of (hp.2 _ _ hb)) (fun i x H' hx hp => ?_) (fun H' hp => ?_)
          · obtain ⟨h1, h2⟩ := hp
            obtain ⟨c, hcx, rfl⟩ := map_at hx
            have hi : i < b.2.2.length := (List.getElem?_eq_some_iff.mp hcx).1
            refine ⟨rfl, ?_⟩
            refine ⟨_, rfl, _, rfl, ga, _, rfl, .inr (.of (h2 _ _ hv.cols)), rfl, flat_ints _, _, h1, ?_, ?_, ?_⟩
            · rw [List.length_map, List.length_map, List.length_take]
              exact Nat.lt_of_le_of_lt (by omega : _ ≤ 100) (by decide)
            · rw [map_take hcx, List.map_append]
              refine Eq.trans upd_same ?_
              show some (HO.lst (_ ++ [V.bl (inV (.int c) (cs.map V.int))])) = _
              rw [inV_ints]
              rfl
            · intro x o ex
              rw [upd_ne (ne_of_none ex hD)]
              exact h2 x o ex
          · obtain ⟨h1, h2⟩ := hp
            rw [List.length_map, List.take_length] at h1
            refine ⟨D, _, rfl, .of h1, ?_⟩
            refine fin _ ?_ _ h2
            unfold isWh
            rw [e1, decide_eq_false e2, e3, List.all_map]
            rfl
end
theorem perm_map_ex {α β : Type} {f : α → β} {ys zs : List β} (h : ys.Perm zs) : ∀ xs : List α, zs = xs.map f → ∃ L : List α, L.Perm xs ∧ L.map f = ys := by
  induction h with
  | nil =>
    intro xs e
    cases xs with
    | nil => exact ⟨[], .refl _, rfl⟩
    | cons x xs => cases e
  | cons y p ih =>
    intro xs e
    cases xs with
    | nil => cases e
    | cons x xs =>
      rw [List.map_cons] at e
      injection e with e1 e2
      obtain ⟨L, h1, h2⟩ := ih xs e2
      exact ⟨x :: L, h1.cons x, by rw [List.map_cons, h2, e1]⟩
  | swap y z l =>
    intro xs e
    cases xs with
    | nil => cases e
    | cons x xs =>
      cases xs with
      | nil => cases e
      | cons x' xs =>
        rw [List.map_cons, List.map_cons] at e
        injection e with e1 e2
        injection e2 with e2 e3
        exact ⟨x' :: x :: xs, .swap _ _ _, by rw [List.map_cons, List.map_cons, e1, e2, e3]⟩
  | trans p q ih1 ih2 =>
    intro xs e
    obtain ⟨L, h1, h2⟩ := ih2 xs e
    obtain ⟨M, h3, h4⟩ := ih1 L h2.symm
    exact ⟨M, h3.trans h1, h4⟩
/-- what sorted(d) is asked and gives -/
theorem DctAt.names {α : Type} {H : Hp} {t : Addr} {xs : List α} {g : α → Key × V} {f : α → Str} (h : DctAt H t (xs.map g)) (hg : ∀ x, (g x).1 = Sum.inr (f x)) (hl : xs.length < 64) :
    ∃ ks zs, H t = some (.dK ks) ∧ ks.length = xs.length ∧ ks.map (·.1) = zs.map Sum.inr ∧ zs.length < 64 ∧ zs.Perm (xs.map f) ∧ ∀ ys : List Str, ys.Perm zs → ∃ L : List α, L.Perm xs ∧ L.map f = ys := by
  obtain ⟨ks, e, p⟩ := h
  obtain ⟨L, h1, h2⟩ := perm_map_ex p xs rfl
  refine ⟨ks, L.map f, e, ?_, ?_, ?_, h1.map f, fun ys hy => ?_⟩
  · rw [← h2, List.length_map, h1.length_eq]
  · rw [← h2, List.map_map, List.map_map]
    exact List.map_congr_left fun x _ => hg x
  · rw [List.length_map, h1.length_eq]
    exact hl
  · obtain ⟨M, h3, h4⟩ := perm_map_ex hy L rfl
    exact ⟨M, h3.trans h1, h4⟩
theorem key_val {H : Hp} {ts : List (Str × Int)} {ks : List KeyE} {m : Nat} {wm : Int} (hT : Tabs ts m wm) (h : Keys H ts ks) {b : KeyE} (hb : b ∈ ks) : valV (keyK ks) (Sum.inr b.1) = some (.ref b.2.1) :=
  val_nodup (kvs := keyK ks) (key_nd hT h) (Sum.inr b.1, V.ref b.2.1) (List.mem_map.mpr ⟨b, hb, rfl⟩)
theorem sv_val {H : Hp} {ts : List (Str × Int)} {ks : List KeyE} {ss : List SvE} {n : Nat} (h : Svcs H ts ks ss n) {b : SvE} (hb : b ∈ ss) : valV (svK ss) (Sum.inr b.name) = some (.ref b.at_) :=
  val_nodup (kvs := svK ss) (sv_nd h) (Sum.inr b.name, V.ref b.at_) (List.mem_map.mpr ⟨b, hb, rfl⟩)
theorem fillE_perm {ts : List (Str × Int)} {ks : List KeyE} {a b : List SvE} (p : a.Perm b) : (fillE ts ks a).Perm (fillE ts ks b) := (p.filter _).map _
theorem fillE_take {ts : List (Str × Int)} {ks : List KeyE} (L : List SvE) (i : Nat) : (fillE ts ks (L.take i)).Sublist (fillE ts ks L) := ((List.take_sublist i L).filter _).map _
theorem rising_pw : ∀ (l : List Str) (p : Str), PyProof.Rows.risingS p l = true → (p :: l).Pairwise fun a b => a.cps.toList ≤ b.cps.toList
  | [], p, _ => List.pairwise_singleton _ _
  | x :: r, p, h => by
    have h' : (!PySem.Spec.ltCps x.cps.toList p.cps.toList && PyProof.Rows.risingS x r) = true := h
    rw [Bool.and_eq_true] at h'
    obtain ⟨h1, h2⟩ := h'
    have ih := rising_pw r x h2
    have hpx : p.cps.toList ≤ x.cps.toList := by
      rw [PyProof.Rows.ltCps_eq] at h1
      have h3 : ¬ x.cps.toList < p.cps.toList := by simpa using h1
      exact h3
    refine List.pairwise_cons.mpr ⟨fun y hy => ?_, ih⟩
    rcases List.mem_cons.mp hy with rfl | hy
    · exact hpx
    · exact List.le_trans hpx ((List.pairwise_cons.mp ih).1 y hy)
theorem sorted_pw {l : List Str} (h : PyProof.Rows.sortedS l = true) : l.Pairwise fun a b => a.cps.toList ≤ b.cps.toList := by
  cases l with
  | nil => exact .nil
  | cons x r => exact rising_pw r x h
theorem sorted_uniq {a b : List Str} (p : a.Perm b) (ha : PyProof.Rows.sortedS a = true) (hb : PyProof.Rows.sortedS b = true) : a = b := by
  refine List.Perm.eq_of_pairwise (le := fun a b : Str => a.cps.toList ≤ b.cps.toList) (fun x y _ _ h1 h2 => ?_) (sorted_pw ha) (sorted_pw hb) p
  have e := List.le_antisymm h1 h2
  cases x
  cases y
  congr
  exact Array.toList_inj.mp e
theorem dc_list {K : PySem.W.Frag} {a : Addr} {xs : List V} {g : TG} {tt : TT} {tk tv : TE} {vs : List Nat} {σ : L2.St} {H1 : Hp} {D : Addr} {Qd : Hp → Prop} (Pv : Nat → Hp → Prop) (h0 : Pv 0 (upd H1 D (.dK []))) (hl : ∀ i H, i ≤ xs.length → Pv i H → SqL K H a xs)
    (hs : ∀ i x H, xs[i]? = some x → Pv i H → g x (wipe σ vs) H fun σ2 H2 => wipe σ2 vs = wipe σ vs ∧ tt σ2 H2 fun b H3 =>
      if b = true then tk σ2 H3 fun y H4 => tv σ2 H4 fun z H5 => ∃ kvs k, y = kV k ∧ H5 D = some (.dK kvs) ∧ kvs.length < sizeLine ∧ Pv (i + 1) (upd H5 D (.dK (putK kvs k z))) else Pv (i + 1) H3) (hd : ∀ H, Pv xs.length H → Qd H) :
    ∃ W : Nat → Nat → Hp → Prop, (∃ m, W 0 m (upd H1 D (.dK []))) ∧ ∀ i m H, W i m H →
      ((Itl K a).stop i H ∧ Qd H) ∨ ((Itl K a).go i H ∧ ∃ Nx : Hp → Prop, (∀ H', Nx H' → ∃ m', m' < m ∧ W (i + 1) m' H') ∧ ∀ x H', (Itl K a).yld i H x H' → g x (wipe σ vs) H' fun σ2 H2 => wipe σ2 vs = wipe σ vs ∧ tt σ2 H2 fun b H3 =>
        if b = true then tk σ2 H3 fun y H4 => tv σ2 H4 fun z H5 => ∃ kvs k, y = kV k ∧ H5 D = some (.dK kvs) ∧ kvs.length < sizeLine ∧ Nx (upd H5 D (.dK (putK kvs k z))) else Nx H3) := by
  refine ⟨fun i m H => m = xs.length - i ∧ i ≤ xs.length ∧ Pv i H, ⟨xs.length, by simp, Nat.zero_le _, h0⟩, ?_⟩
  rintro i m H ⟨rfl, hi, p⟩
  have q := hl i H hi p
  rcases Nat.lt_or_ge i xs.length with lt | ge
  · refine .inr ⟨⟨xs, xs[i], q, by simp [lt]⟩, Pv (i + 1), fun H' p' => ⟨xs.length - (i + 1), by omega, rfl, lt, p'⟩, fun x H' y => ?_⟩
    obtain ⟨e, y⟩ := y
    subst e
    exact hs i x _ (y xs q) p
  · obtain rfl : i = xs.length := by omega
    exact .inl ⟨⟨xs, q, Nat.le_refl _⟩, hd H p⟩
def spCopied : Sp := fun vs H Q _ => ∃ (t : Addr) (kvs : List (Key × V)) (names : List Str), vs = [.ref t] ∧ DctAt H t kvs ∧ kvs.map (·.1) = names.map Sum.inr ∧ names.Nodup ∧ names.length < 64 ∧ ∀ D H', H D = none → DctAt H' D kvs → Same H H' → Q (.ref D) H'
section
variable {P : Program} {w : World} {K : PySem.W.Frag} {mg : Str → Option Value} {base : Heap} {a : Nat → Addr} {d : Nat → FuncData}
theorem ok_copied (T : Txt K mg a d) : FnOk P w K mg base CX0 1 (a 47) (d 47) ["things"] spCopied := by
  refine T.F47.ok sc__copied (fun vs H Q E h => ?_) (fun cdv A outer s H vs Q E hr h => ?_)
  · obtain ⟨t, kvs, names, rfl, _⟩ := h
    rfl
  · obtain ⟨t, kvs, names, rfl, ht, hk, hnd, h64, q⟩ := h
    have nd : (kvs.map (·.1)).Nodup := by
      rw [hk]
      exact inr_nd hnd
    obtain ⟨kd, e, pk⟩ := id ht
    have pk' := pk.map (·.1)
    rw [hk] at pk'
    obtain ⟨zs, z1, z2⟩ := perm_map_ex pk' names rfl
    refine ⟨_, (pss_one (ps_ret (pe_dc (own := [("name", 1)]) rfl sc__copied.nd (pi_list (pe_callB (id := "sorted")  (call_sortedD rfl) (by rfl) T.z_sorted (by decide +kernel) (pa_cons (pv 0) pa_nil))) (blkOk_by (N := ["things", "name"]) (sc := defScope s__copied) (by decide +kernel)) (fun _ _ _ _ _ => pg_name (i := 1) sc__copied.nd rfl (.inl rfl)) (fun _ _ _ _ _ => pts_nil) (fun _ _ _ _ _ => (pv 1)) (fun _ _ _ _ _ => (pe_dget (hu_of hr) (pv 0) (pv 1) (fun _ _ => rfl)))))), ?_⟩
    refine ⟨_, rfl, t, kd, zs, rfl, .inl e, z2.symm, by rw [z1.length_eq]; exact h64, fun ys p yp _ hp => ⟨p, rfl, ?_⟩⟩
    have s0 := same_upd (o := .lst (ys.map V.str)) hp
    have yn : ys.Perm names := yp.trans z1
    have ynd : ys.Nodup := yn.nodup_iff.mpr hnd
    have yl : ys.length < 64 := by rw [yn.length_eq]; exact h64
    refine ⟨⟨_, .of upd_same⟩, fun D hD => ?_⟩
    have hD0 : H D = none := s0.free hD
    have npD : p ≠ D := ne_of_none upd_same hD
    have pairs : ∀ zs : List Str, zs.Perm names → (zs.map fun n => ((Sum.inr n : Key), (valV kvs (Sum.inr n)).getD .non)).Perm kvs := fun zs hz => by
      refine (hz.map _).trans (List.Perm.of_eq ?_)
      have e1 : (names.map fun n => ((Sum.inr n : Key), (valV kvs (Sum.inr n)).getD .non)) = (kvs.map (·.1)).map fun k => (k, (valV kvs k).getD .non) := by
        rw [hk, List.map_map]
        rfl
      rw [e1, List.map_map]
      refine Eq.trans (List.map_congr_left (g := id) fun x hx => ?_) (List.map_id _)
      show (x.1, (valV kvs x.1).getD .non) = x
      rw [val_nodup nd x hx]
      rfl
    refine dc_list (K := K) (a := p) (xs := ys.map V.str) (fun i H' => H' D = some (.dK ((ys.take i).map fun n => ((Sum.inr n : Key), (valV kvs (Sum.inr n)).getD .non))) ∧ Same (upd H p (.lst (ys.map V.str))) H') ⟨upd_same, same_upd hD⟩ (fun i H' _ hp => .of (hp.2 _ _ upd_same)) (fun i x H' hx hp => ?_) (fun H' hp => ?_)
    · obtain ⟨h1, h2⟩ := hp
      obtain ⟨n, hn, rfl⟩ := map_at hx
      have hmem : n ∈ names := yn.mem_iff.mp (List.mem_of_getElem? hn)
      have hv : ∃ v, valV kvs (Sum.inr n) = some v := by
        have : (Sum.inr n : Key) ∈ kvs.map (·.1) := by
          rw [hk]
          exact List.mem_map.mpr ⟨n, hmem, rfl⟩
        obtain ⟨x, hx, e⟩ := List.mem_map.mp this
        exact ⟨x.2, by rw [← e]; exact val_nodup nd x hx⟩
      obtain ⟨v, hv⟩ := hv
      refine ⟨rfl, _, rfl, _, rfl, _, rfl, t, v, rfl, (ht.same (s0.trans h2)).at_ nd hv, _, Sum.inr n, rfl, h1, ?_, ?_, ?_⟩
      · rw [List.length_map, List.length_take]
        exact small1000 (by omega)
      · rw [map_take hn, hv]
        refine Eq.trans upd_same (congrArg (fun x => some (HO.dK x)) ?_)
        rw [putK_new _ (valV_no ?_)]
        · rfl
        · rw [List.map_map]
          exact inr_no (nd_take ynd hn)
      · intro x o ex
        rw [upd_ne (ne_of_none ex hD)]
        exact h2 x o ex
    · obtain ⟨h1, h2⟩ := hp
      rw [List.length_map, List.take_length] at h1
      exact q D H' hD0 ⟨_, h1, pairs ys yn⟩ (s0.trans h2)
end
def fldsS (d1 d2 d3 : Addr) : List (Str × V) := putF "_services" (.ref d3) (putF "_keys" (.ref d2) (putF "_tables" (.ref d1) []))
theorem flds_t (d1 d2 d3 : Addr) : (fldsS d1 d2 d3).lookup ("_tables" : Str) = some (V.ref d1) := by
  unfold fldsS
  rw [lookup_putF, if_neg (by decide +kernel), lookup_putF, if_neg (by decide +kernel), lookup_putF, if_pos rfl]
theorem flds_k (d1 d2 d3 : Addr) : (fldsS d1 d2 d3).lookup ("_keys" : Str) = some (V.ref d2) := by
  unfold fldsS
  rw [lookup_putF, if_neg (by decide +kernel), lookup_putF, if_pos rfl]
theorem flds_s (d1 d2 d3 : Addr) : (fldsS d1 d2 d3).lookup ("_services" : Str) = some (V.ref d3) := by
  unfold fldsS
  rw [lookup_putF, if_pos rfl]
theorem flds_no (d1 d2 d3 : Addr) {m : Str} (h1 : ¬ m = "_services") (h2 : ¬ m = "_keys") (h3 : ¬ m = "_tables") : (fldsS d1 d2 d3).lookup m = none := by
  unfold fldsS
  rw [lookup_putF, if_neg h1, lookup_putF, if_neg h2, lookup_putF, if_neg h3]
  rfl
theorem DctAt.but {H H' : Hp} {t p : Addr} {kvs : List (Key × V)} {C dx : Addr} {fs : List (Str × V)} (h : DctAt H t kvs) (hp : H p = some (.ins C dx fs)) (s : ∀ b o, b ≠ p → H b = some o → H' b = some o) : DctAt H' t kvs := by
  obtain ⟨ks, e, q⟩ := h
  exact ⟨ks, s _ _ (ne_of e hp (by intro z; cases z)) e, q⟩
/-! ### dicts with the same pairs in any order -/
section
variable {P : Program} {w : World} {K : PySem.W.Frag} {mg : Str → Option Value} {base : Heap} {a : Nat → Addr} {d : Nat → FuncData}
/-! ### the small ones -/
def spCount : Sp := fun vs H Q _ => ∃ (i m : Int), vs = [.int i, .int m] ∧ ∀ H', Same H H' → Q (.bl (decide (1 ≤ i ∧ i ≤ m))) H'
theorem ok_count (T : Txt K mg a d) : FnOk P w K mg base CX0 2 (a 37) (d 37) ["thing", "most"] spCount := by
  have G10 : FnOk P w K mg base CX0 1 (a 10) (d 10) ["thing"] (spB plainV) := ok_plain T
  refine T.F37.ok sc__is_count (fun vs H Q E h => ?_) (fun cdv A outer s H vs Q E hr h => ?_)
  · obtain ⟨i, m, rfl, _⟩ := h
    rfl
  · obtain ⟨i, m, rfl, q⟩ := h
    refine ⟨_, (pss_one (ps_ret (pe_and (pe_call G10 (hr.mono (by decide)) (by rfl) T.g10 T.F10.kp T.b10 .nil pass0 (pa_cons (pv 0) pa_nil)) (pe_one (pe_chain op_le op_le pe_int (pv 0) (pv 1)))))), ?_⟩
    refine ⟨_, rfl, _, rfl, .int i, fun H1 s1 => ⟨_, rfl, ?_⟩⟩
    refine ⟨_, rfl, _, _, rfl, rfl, _, rfl, ite_d (fun h1 => ?_) (fun h1 => ?_)⟩
    · refine ⟨_, rfl, _, _, rfl, rfl, ?_⟩
      have := q H1 s1
      show Q (.bl (decide (i ≤ m))) H1
      by_cases h2 : i ≤ m
      · rw [decide_eq_true (show 1 ≤ i ∧ i ≤ m from ⟨h1, h2⟩)] at this
        rw [decide_eq_true h2]
        exact this
      · rw [decide_eq_false (fun z : 1 ≤ i ∧ i ≤ m => h2 z.2)] at this
        rw [decide_eq_false h2]
        exact this
    · have := q H1 s1
      rw [decide_eq_false (fun z : 1 ≤ i ∧ i ≤ m => h1 z.1)] at this
      exact this
def spNameIn : Sp := fun vs H Q _ => ∃ (n : Str) (t : Addr) (kvs : List (Key × V)), vs = [.str n, .ref t] ∧ DctAt H t kvs ∧ (kvs.map (·.1)).Nodup ∧ Q (.bl (valV kvs (Sum.inr n)).isSome) H
theorem ok_name_in (T : Txt K mg a d) : FnOk P w K mg base CX0 1 (a 38) (d 38) ["thing", "names"] spNameIn := by
  refine T.F38.ok sc__is_name_in (fun vs H Q E h => ?_) (fun cdv A outer s H vs Q E hr h => ?_)
  · obtain ⟨n, t, kvs, rfl, _⟩ := h
    rfl
  · obtain ⟨n, t, kvs, rfl, ht, nd, q⟩ := h
    refine ⟨_, (pss_one (ps_ret (pe_and (pe_callB (id := "isinstance")  call_isi (by rfl) T.z_isinstance (by decide +kernel) (pa_cons (pv 0) (pa_cons (pe_bltn (v := .ty "str") (by rfl) T.z_str (by decide +kernel) rfl) pa_nil))) (pe_one (pe_cmp (pc_din (hu_of hr) (pv 0) (pv 1)) rfl))))), ?_⟩
    refine ⟨_, rfl, _, _, _, _, _, rfl, .ty _, .base (.str n), kit_ty (show kitB "str" "str" = some true by decide +kernel), _, rfl, ?_⟩
    exact ⟨_, rfl, _, rfl, t, _, rfl, ht.get nd (Sum.inr n), q⟩
def spAreCols : Sp := fun vs H Q _ => ∃ (c : Addr) (cs : List Int) (w : Int), vs = [.ref c, .int w] ∧ H c = some (.tup (cs.map V.int)) ∧ Cols cs w ∧ cs.length ≤ 100 ∧ ∀ H', Same H H' → Q (.bl true) H'
theorem ok_are_columns (T : Txt K mg a d) : FnOk P w K mg base CX0 2 (a 39) (d 39) ["thing", "width"] spAreCols := by
  have G10 : FnOk P w K mg base CX0 1 (a 10) (d 10) ["thing"] (spB plainV) := ok_plain T
  refine T.F39.ok sc__are_columns (fun vs H Q E h => ?_) (fun cdv A outer s H vs Q E hr h => ?_)
  · obtain ⟨c, cs, w, rfl, _⟩ := h
    rfl
  · obtain ⟨c, cs, w, rfl, hc, hcs, hl, q⟩ := h
    refine ⟨_, (pss_cons (ps_if (pt_not (pt_val (pe_callB (id := "isinstance")  call_isi (by rfl) T.z_isinstance (by decide +kernel) (pa_cons (pv 0) (pa_cons (pe_bltn (v := .ty "tuple") (by rfl) T.z_tuple (by decide +kernel) rfl) pa_nil)))))
    (pss_one (ps_ret pe_bl))
    pss_nil)
  (pss_cons (ps_set (i := 2) sc__are_columns.nd rfl (.inl rfl) pe_int)
  (pss_cons (ps_for PassesOwn.never rfl (pi_tup (pv 0)) (pg_name (i := 3) sc__are_columns.nd rfl (.inl rfl))
    (pss_cons (ps_if (PW.pt (pw_or (pt_not (pt_val (pe_call G10 (hr.mono (by decide)) (by rfl) T.g10 T.F10.kp T.b10 .nil pass0 (pa_cons (pv 3) pa_nil)))) (pw_or1 (pt_not (pt_chain op_le op_lt (pv 2) (pv 3) (pv 1))))))
        (pss_one (ps_ret pe_bl))
        pss_nil)
      (pss_one (ps_set (i := 2) sc__are_columns.nd rfl (.inl rfl) (pe_op op_add (pv 3) pe_int)))))
  (pss_one (ps_ret pe_bl))))), ?_⟩
    refine ⟨_, rfl, _, _, _, _, _, rfl, .ty _, .base (.tup hc), kit_ty (show kitB "tuple" "tuple" = some true by decide +kernel), _, rfl, ?_⟩
    refine ⟨_, rfl, c, rfl, ⟨_, .of hc⟩, for_tup (K := K) (a := c) (xs := cs.map V.int) (fun i σ H' => ∃ (l : Int) (y3 : Option V), σ = [some (.ref c), some (.int w), some (.int l), y3] ∧ Same H H' ∧ (∀ j x, i ≤ j → cs[j]? = some x → l ≤ x)) ⟨0, none, rfl, Same.refl H, fun j x _ e => (hcs.2 x (List.mem_of_getElem? e)).1⟩ (fun i σ H' _ hp => ?_) (fun i y σ H' hy hp => ?_) (fun σ H' hp => ?_)⟩
    · obtain ⟨l, y3, rfl, s1, _⟩ := hp
      exact .of (s1 _ _ hc)
    · obtain ⟨l, y3, rfl, s1, hlow⟩ := hp
      obtain ⟨x, hx, rfl⟩ := map_at hy
      have hb := hcs.2 x (List.mem_of_getElem? hx)
      have h1 := hlow i x (Nat.le_refl _) hx
      refine ⟨_, rfl, _, rfl, .int x, fun H1 s2 => ⟨_, rfl, ?_⟩⟩
      refine ⟨_, rfl, _, rfl, _, _, rfl, rfl, _, rfl, ite_d (fun _ => ?_) (fun z => absurd h1 z)⟩
      refine ⟨_, rfl, _, _, rfl, rfl, _, rfl, ?_⟩
      rw [decide_eq_true hb.2]
      refine ⟨_, rfl, _, _, rfl, rfl, _, _, rfl, s1.trans s2, fun j z hj e => ?_⟩
      have hij : i < j := hj
      obtain ⟨hi', ei⟩ := List.getElem?_eq_some_iff.mp hx
      obtain ⟨hj', ej⟩ := List.getElem?_eq_some_iff.mp e
      have := List.pairwise_iff_getElem.mp hcs.1 i j hi' hj' hij
      rw [ei, ej] at this
      omega
    · obtain ⟨l, y3, rfl, s1, _⟩ := hp
      exact q H' s1
/-! ### keys and services that are right -/
def spIsKey : Sp := fun vs H Q _ => ∃ (c : Addr) (cs : List Int) (w : Int), vs = [.ref c, .int w] ∧ H c = some (.tup (cs.map V.int)) ∧ Cols cs w ∧ cs.length ≤ 100 ∧ 1 ≤ cs.length ∧ (cs.length : Int) < w ∧ ∀ H', Same H H' → Q (.bl true) H'
theorem ok_is_key (T : Txt K mg a d) : FnOk P w K mg base CX0 3 (a 40) (d 40) ["thing", "width"] spIsKey := by
  have G39 : FnOk P w K mg base CX0 2 (a 39) (d 39) ["thing", "width"] spAreCols := ok_are_columns T
  refine T.F40.ok sc__is_key (fun vs H Q E h => ?_) (fun cdv A outer s H vs Q E hr h => ?_)
  · obtain ⟨c, cs, w, rfl, _⟩ := h
    rfl
  · obtain ⟨c, cs, w, rfl, hc, hcs, hl, h1, h2, q⟩ := h
    refine ⟨_, (pss_one (ps_ret (pe_and (pe_call G39 (hr.mono (by decide)) (by rfl) T.g39 T.F39.kp T.b39 .nil pass0 (pa_cons (pv 0) (pa_cons (pv 1) pa_nil))) (pe_one (pe_chain op_lt op_lt pe_int (pe_callB (id := "len")  call_len_seq (by rfl) T.z_len (by decide +kernel) (pa_cons (pv 0) pa_nil)) (pv 1)))))), ?_⟩
    refine ⟨_, rfl, _, rfl, c, cs, w, rfl, hc, hcs, hl, fun H1 s1 => ⟨_, rfl, ?_⟩⟩
    have lc : ((cs.map V.int).length : Int) = cs.length := by rw [List.length_map]
    refine ⟨_, rfl, _, _, rfl, .inr (.of (s1 _ _ hc)), _, _, rfl, rfl, _, rfl, ite_d (fun _ => ?_) (fun z => absurd (by omega) z)⟩
    refine ⟨_, rfl, _, _, rfl, rfl, ?_⟩
    show Q (.bl (decide (((cs.map V.int).length : Int) < w))) H1
    rw [lc, decide_eq_true h2]
    exact q H1 s1
def spIsSvc : Sp := fun vs H Q _ => ∃ (v t ga : Addr) (n : Str) (cs : List Int) (cap : Option Int) (w : Int) (ts : List (Str × Int)) (m : Nat), vs = [.ref v, .ref t] ∧ Told H v n ga cs cap ∧ DctAt H t (tabK ts) ∧ Tabs ts m 4 ∧ (n, w) ∈ ts ∧ Cols cs w ∧ cs.length ≤ 4 ∧ (∀ z, cap = some z → 1 ≤ z ∧ z ≤ 4) ∧ ∀ H', Same H H' → Q (.bl true) H'
theorem ok_is_service (T : Txt K mg a d) : FnOk P w K mg base CX0 3 (a 41) (d 41) ["thing", "tables"] spIsSvc := by
  have G39 : FnOk P w K mg base CX0 2 (a 39) (d 39) ["thing", "width"] spAreCols := ok_are_columns T
  have G38 : FnOk P w K mg base CX0 1 (a 38) (d 38) ["thing", "names"] spNameIn := ok_name_in T
  have G37 : FnOk P w K mg base CX0 2 (a 37) (d 37) ["thing", "most"] spCount := ok_count T
  refine T.F41.ok sc__is_service (fun vs H Q E h => ?_) (fun cdv A outer s H vs Q E hr h => ?_)
  · obtain ⟨v, t, ga, n, cs, cap, w, ts, m, rfl, _⟩ := h
    rfl
  · obtain ⟨v, t, ga, n, cs, cap, w, ts, m, rfl, hv, ht, hT, hm, hcs, hl, hcap, q⟩ := h
    obtain ⟨t9, h_MOST_CAP⟩ := T.c_MOST_CAP
    have tv := tab_val hT hm
    have g := fun (H' : Hp) (s : Same H H') => (ht.same s).get (tab_nd hT) (Sum.inr n)
    rw [tv] at g
    refine ⟨_, (pss_cons (ps_if (PW.pt (pw_or (pt_not (pt_val (pe_callB (id := "isinstance")  call_isi (by rfl) T.z_isinstance (by decide +kernel) (pa_cons (pv 0) (pa_cons (pe_bltn (v := .ty "tuple") (by rfl) T.z_tuple (by decide +kernel) rfl) pa_nil))))) (pw_or1 (pt_cmpR op_ne (pe_callB (id := "len")  call_len_seq (by rfl) T.z_len (by decide +kernel) (pa_cons (pv 0) pa_nil)) pe_int (nomark _)))))
    (pss_one (ps_ret pe_bl))
    pss_nil)
  (pss_cons (ps_asg (pv 0) (pg_tup rfl (pgs_cons (pg_name (i := 2) sc__is_service.nd rfl (.inl rfl)) (pgs_cons (pg_name (i := 3) sc__is_service.nd rfl (.inl rfl)) (pgs_cons (pg_name (i := 4) sc__is_service.nd rfl (.inl rfl)) pgs_nil)))))
  (pss_cons (ps_if (PW.pt (pw_or (pt_not (pt_val (pe_call G38 (hr.mono (by decide)) (by rfl) T.g38 T.F38.kp T.b38 .nil pass0 (pa_cons (pv 2) (pa_cons (pv 1) pa_nil))))) (pw_or1 (pt_not (pt_val (pe_call G39 (hr.mono (by decide)) (by rfl) T.g39 T.F39.kp T.b39 .nil pass0 (pa_cons (pv 3) (pa_cons (pe_dget (hu_of hr) (pv 1) (pv 2) (fun _ _ => rfl)) pa_nil))))))))
    (pss_one (ps_ret pe_bl))
    pss_nil)
  (pss_one (ps_ret (pe_or (pe_cmpR op_isN (pv 4) pe_non (nomark _)) (pe_one (pe_call G37 (hr.mono (by decide)) (by rfl) T.g37 T.F37.kp T.b37 .nil pass0 (pa_cons (pv 4) (pa_cons (pe_glob (v := .int (4)) rfl h_MOST_CAP ⟨_, rfl⟩) pa_nil)))))))))), ?_⟩
    refine ⟨_, rfl, _, _, _, _, _, rfl, .ty _, .base (.tup hv.tup), kit_ty (show kitB "tuple" "tuple" = some true by decide +kernel), _, rfl, ?_⟩
    refine ⟨_, rfl, _, _, rfl, .inr (.of hv.tup), rfl, _, rfl, ?_⟩
    refine ⟨_, rfl, v, _, rfl, .of hv.tup, rfl, _, _, rfl, _, _, rfl, _, _, rfl, rfl, ?_⟩
    refine ⟨_, rfl, _, rfl, n, t, tabK ts, rfl, ht, tab_nd hT, ?_⟩
    rw [tv]
    refine ⟨_, rfl, _, rfl, _, rfl, _, rfl, t, _, rfl, g H (Same.refl H), ga, cs, w, rfl, hv.cols, hcs, by omega, fun H1 s1 => ⟨_, rfl, ?_⟩⟩
    refine ⟨_, rfl, rfl, _, rfl, ?_⟩
    rw [capV_none]
    cases e : cap.isNone with
    | true => exact q H1 s1
    | false =>
      cases cap with
      | none => cases e
      | some z =>
        have hz := hcap z rfl
        refine ⟨_, rfl, z, 4, rfl, fun H2 s2 => ?_⟩
        rw [decide_eq_true hz]
        exact q H2 (s1.trans s2)
end
/-! ### a dict whose names are sorted -/
section
variable {P : Program} {w : World} {K : PySem.W.Frag} {mg : Str → Option Value} {base : Heap} {a : Nat → Addr} {d : Nat → FuncData}
def spChkT : Sp := fun vs H Q _ => ∃ (t : Addr) (ts : List (Str × Int)) (m : Nat), vs = [.ref t] ∧ DctAt H t (tabK ts) ∧ Tabs ts m 4 ∧ 1 ≤ m ∧ m ≤ 5 ∧ ∀ H', Same H H' → Q .non H'
theorem ok_check_tables (T : Txt K mg a d) : FnOk P w K mg base CX0 3 (a 43) (d 43) ["tables"] spChkT := by
  have G11 : FnOk P w K mg base CX0 1 (a 11) (d 11) ["thing"] (spB wordV) := ok_is_word T
  have G37 : FnOk P w K mg base CX0 2 (a 37) (d 37) ["thing", "most"] spCount := ok_count T
  refine T.F43.ok sc__check_tables (fun vs H Q E h => ?_) (fun cdv A outer s H vs Q E hr h => ?_)
  · obtain ⟨t, ts, m, rfl, _⟩ := h
    rfl
  · obtain ⟨t, ts, m, rfl, ht, hT, hm1, hm2, q⟩ := h
    obtain ⟨t8, h_MOST_TABLES⟩ := T.c_MOST_TABLES
    obtain ⟨t9, h_MOST_WIDTH_schemas⟩ := T.c_MOST_WIDTH_schemas
    have hlen := hT.len
    obtain ⟨ks, zs, e, kl, ek, z64, _, hL⟩ := DctAt.names (f := (·.1)) ht (fun _ => rfl) (by omega)
    refine ⟨_, (pss_cons (ps_if (pt_not (pt_chain op_le op_le pe_int (pe_callB (id := "len")  call_lenD (by rfl) T.z_len (by decide +kernel) (pa_cons (pv 0) pa_nil)) (pe_glob (v := .int (5)) rfl h_MOST_TABLES ⟨_, rfl⟩)))
    (pss_one ps_never)
    pss_nil)
  (pss_one (ps_for PassesOwn.never rfl (pi_list (pe_callB (id := "sorted")  (call_sortedD rfl) (by rfl) T.z_sorted (by decide +kernel) (pa_cons (pv 0) pa_nil))) (pg_name (i := 1) sc__check_tables.nd rfl (.inl rfl))
    (pss_one (ps_if (PW.pt (pw_or (pt_not (pt_val (pe_call G11 (hr.mono (by decide)) (by rfl) T.g11 T.F11.kp T.b11 .nil pass0 (pa_cons (pv 1) pa_nil)))) (pw_or1 (pt_not (pt_val (pe_call G37 (hr.mono (by decide)) (by rfl) T.g37 T.F37.kp T.b37 .nil pass0 (pa_cons (pe_dget (hu_of hr) (pv 0) (pv 1) (fun _ _ => rfl)) (pa_cons (pe_glob (v := .int (4)) rfl h_MOST_WIDTH_schemas ⟨_, rfl⟩) pa_nil))))))))
        (pss_one ps_never)
        pss_nil))))), ?_⟩
    refine ⟨_, rfl, t, ks, rfl, e, _, _, rfl, rfl, _, rfl, ite_d (fun _ => ?_) (fun z => absurd (by omega) z)⟩
    refine ⟨_, _, rfl, rfl, _, rfl, ?_⟩
    show if (!decide ((ks.length : Int) ≤ 5)) = true then _ else _
    rw [decide_eq_true (by omega)]
    refine ⟨_, rfl, t, ks, zs, rfl, .inl e, ek, z64, fun ys p yp _ hp => ⟨p, rfl, ?_⟩⟩
    obtain ⟨L, hLp, rfl⟩ := hL ys yp
    have s0 := same_upd (o := .lst ((L.map (·.1)).map V.str)) hp
    refine ⟨⟨_, .of upd_same⟩, for_list (K := K) (a := p) (xs := (L.map (·.1)).map V.str) (fun i σ H' => ∃ y1 : Option V, σ = [some (.ref t), y1] ∧ Same (upd H p (.lst ((L.map (·.1)).map V.str))) H') ⟨none, rfl, Same.refl _⟩ (fun i σ H' _ hp => ?_) (fun i y σ H' hy hp => ?_) (fun σ H' hp => ?_)⟩
    · obtain ⟨y1, rfl, s1⟩ := hp
      exact .of (s1 _ _ upd_same)
    · obtain ⟨y1, rfl, s1⟩ := hp
      obtain ⟨n, hn, rfl⟩ := map_at hy
      obtain ⟨b, hb, rfl⟩ := map_at hn
      have hm : (b.1, b.2) ∈ ts := hLp.mem_iff.mp (List.mem_of_getElem? hb)
      have hw := hT.wd _ hm
      have hwd := hT.nm.wd b.1 (List.mem_map.mpr ⟨_, hm, rfl⟩)
      refine ⟨_, rfl, .str b.1, rfl, wd_thg hwd, fun H1 s2 => ⟨_, rfl, ?_⟩⟩
      show if (!wordB b.1) = true then _ else _
      rw [wd_b hwd]
      refine ⟨_, rfl, _, rfl, t, _, rfl, (ht.same ((s0.trans s1).trans s2)).at_ (tab_nd hT) (tab_val hT hm), b.2, 4, rfl, fun H2 s3 => ⟨_, rfl, ?_⟩⟩
      rw [decide_eq_true hw]
      exact ⟨_, rfl, (s1.trans s2).trans s3⟩
    · obtain ⟨y1, rfl, s1⟩ := hp
      exact q H' (s0.trans s1)
def spChkK : Sp := fun vs H Q _ => ∃ (k t : Addr) (ts : List (Str × Int)) (ks : List KeyE) (m : Nat), vs = [.ref k, .ref t] ∧ DctAt H k (keyK ks) ∧ DctAt H t (tabK ts) ∧ Tabs ts m 4 ∧ Keys H ts ks ∧ m ≤ 5 ∧ ∀ H', Same H H' → Q .non H'
theorem ok_check_keys (T : Txt K mg a d) : FnOk P w K mg base CX0 4 (a 44) (d 44) ["keys", "tables"] spChkK := by
  have G40 : FnOk P w K mg base CX0 3 (a 40) (d 40) ["thing", "width"] spIsKey := ok_is_key T
  refine T.F44.ok sc__check_keys (fun vs H Q E h => ?_) (fun cdv A outer s H vs Q E hr h => ?_)
  · obtain ⟨k, t, ts, ks, m, rfl, _⟩ := h
    rfl
  · obtain ⟨k, t, ts, ks, m, rfl, hk, ht, hT, hK, hm2, q⟩ := h
    have hlen := hT.len
    have hkl : ks.length ≤ 5 := by
      have := hK.le
      omega
    obtain ⟨kd, zs, e, kl, ek, z64, _, hL⟩ := DctAt.names (f := (·.1)) hk (fun _ => rfl) (by omega)
    refine ⟨_, (pss_one (ps_for PassesOwn.never rfl (pi_list (pe_callB (id := "sorted")  (call_sortedD rfl) (by rfl) T.z_sorted (by decide +kernel) (pa_cons (pv 0) pa_nil))) (pg_name (i := 2) sc__check_keys.nd rfl (.inl rfl))
    (pss_one (ps_if (PW.pt (pw_or (pt_cmp (pc_dnotin (hu_of hr) (pv 2) (pv 1))) (pw_or1 (pt_not (pt_val (pe_call G40 (hr.mono (by decide)) (by rfl) T.g40 T.F40.kp T.b40 .nil pass0 (pa_cons (pe_dget (hu_of hr) (pv 0) (pv 2) (fun _ _ => rfl)) (pa_cons (pe_dget (hu_of hr) (pv 1) (pv 2) (fun _ _ => rfl)) pa_nil))))))))
        (pss_one ps_never)
        pss_nil)))), ?_⟩
    refine ⟨_, rfl, k, kd, zs, rfl, .inl e, ek, z64, fun ys p yp _ hp => ⟨p, rfl, ?_⟩⟩
    obtain ⟨L, hLp, rfl⟩ := hL ys yp
    have s0 := same_upd (o := .lst ((L.map (·.1)).map V.str)) hp
    refine ⟨⟨_, .of upd_same⟩, for_list (K := K) (a := p) (xs := (L.map (·.1)).map V.str) (fun i σ H' => ∃ y1 : Option V, σ = [some (.ref k), some (.ref t), y1] ∧ Same (upd H p (.lst ((L.map (·.1)).map V.str))) H') ⟨none, rfl, Same.refl _⟩ (fun i σ H' _ hp => ?_) (fun i y σ H' hy hp => ?_) (fun σ H' hp => ?_)⟩
    · obtain ⟨y1, rfl, s1⟩ := hp
      exact .of (s1 _ _ upd_same)
    · obtain ⟨y1, rfl, s1⟩ := hp
      obtain ⟨n, hn, rfl⟩ := map_at hy
      obtain ⟨b, hb, rfl⟩ := map_at hn
      have hm : b ∈ ks := hLp.mem_iff.mp (List.mem_of_getElem? hb)
      obtain ⟨w', hw', hcols, hl1, hl2⟩ := hK.ok b hm
      have hwd := hT.wd _ hw'
      have s2 := s0.trans s1
      have gt := (ht.same s2).at_ (tab_nd hT) (tab_val hT hw')
      refine ⟨_, rfl, _, rfl, t, _, rfl, gt, _, rfl, ?_⟩
      refine ⟨_, rfl, _, rfl, k, _, rfl, (hk.same s2).at_ (key_nd hT hK) (key_val hT hK hm), _, rfl, _, rfl, t, _, rfl, gt, b.2.1, b.2.2, w', rfl, s2 _ _ (hK.at_ b hm), hcols, by omega, hl1, hl2, fun H1 s3 => ⟨_, rfl, ?_⟩⟩
      exact ⟨_, rfl, s1.trans s3⟩
    · obtain ⟨y1, rfl, s1⟩ := hp
      exact q H' (s0.trans s1)
def spChkS : Sp := fun vs H Q _ => ∃ (v t : Addr) (ts : List (Str × Int)) (ks : List KeyE) (ss : List SvE) (m n : Nat), vs = [.ref v, .ref t] ∧ DctAt H v (svK ss) ∧ DctAt H t (tabK ts) ∧ Tabs ts m 4 ∧ Svcs H ts ks ss n ∧ 1 ≤ n ∧ n ≤ 8 ∧ ∀ H', Same H H' → Q .non H'
theorem ok_check_services (T : Txt K mg a d) : FnOk P w K mg base CX0 4 (a 45) (d 45) ["services", "tables"] spChkS := by
  have G11 : FnOk P w K mg base CX0 1 (a 11) (d 11) ["thing"] (spB wordV) := ok_is_word T
  have G41 : FnOk P w K mg base CX0 3 (a 41) (d 41) ["thing", "tables"] spIsSvc := ok_is_service T
  refine T.F45.ok sc__check_services (fun vs H Q E h => ?_) (fun cdv A outer s H vs Q E hr h => ?_)
  · obtain ⟨v, t, ts, ks, ss, m, n, rfl, _⟩ := h
    rfl
  · obtain ⟨v, t, ts, ks, ss, m, n, rfl, hv, ht, hT, hS, hm1, hm2, q⟩ := h
    obtain ⟨t8, h_MOST_SERVICES⟩ := T.c_MOST_SERVICES
    have hlen : ss.length = n := by rw [← hS.nm.len, List.length_map]
    obtain ⟨kd, zs, e, kl, ek, z64, _, hL⟩ := DctAt.names (f := (·.name)) hv (fun _ => rfl) (by omega)
    refine ⟨_, (pss_cons (ps_if (pt_not (pt_chain op_le op_le pe_int (pe_callB (id := "len")  call_lenD (by rfl) T.z_len (by decide +kernel) (pa_cons (pv 0) pa_nil)) (pe_glob (v := .int (8)) rfl h_MOST_SERVICES ⟨_, rfl⟩)))
    (pss_one ps_never)
    pss_nil)
  (pss_one (ps_for PassesOwn.never rfl (pi_list (pe_callB (id := "sorted")  (call_sortedD rfl) (by rfl) T.z_sorted (by decide +kernel) (pa_cons (pv 0) pa_nil))) (pg_name (i := 2) sc__check_services.nd rfl (.inl rfl))
    (pss_one (ps_if (PW.pt (pw_or (pt_not (pt_val (pe_call G11 (hr.mono (by decide)) (by rfl) T.g11 T.F11.kp T.b11 .nil pass0 (pa_cons (pv 2) pa_nil)))) (pw_or1 (pt_not (pt_val (pe_call G41 (hr.mono (by decide)) (by rfl) T.g41 T.F41.kp T.b41 .nil pass0 (pa_cons (pe_dget (hu_of hr) (pv 0) (pv 2) (fun _ _ => rfl)) (pa_cons (pv 1) pa_nil))))))))
        (pss_one ps_never)
        pss_nil))))), ?_⟩
    refine ⟨_, rfl, v, kd, rfl, e, _, _, rfl, rfl, _, rfl, ite_d (fun _ => ?_) (fun z => absurd (by omega) z)⟩
    refine ⟨_, _, rfl, rfl, _, rfl, ?_⟩
    show if (!decide ((kd.length : Int) ≤ 8)) = true then _ else _
    rw [decide_eq_true (by omega)]
    refine ⟨_, rfl, v, kd, zs, rfl, .inl e, ek, z64, fun ys p yp _ hp => ⟨p, rfl, ?_⟩⟩
    obtain ⟨L, hLp, rfl⟩ := hL ys yp
    have s0 := same_upd (o := .lst ((L.map (·.name)).map V.str)) hp
    refine ⟨⟨_, .of upd_same⟩, for_list (K := K) (a := p) (xs := (L.map (·.name)).map V.str) (fun i σ H' => ∃ y1 : Option V, σ = [some (.ref v), some (.ref t), y1] ∧ Same (upd H p (.lst ((L.map (·.name)).map V.str))) H') ⟨none, rfl, Same.refl _⟩ (fun i σ H' _ hp => ?_) (fun i y σ H' hy hp => ?_) (fun σ H' hp => ?_)⟩
    · obtain ⟨y1, rfl, s1⟩ := hp
      exact .of (s1 _ _ upd_same)
    · obtain ⟨y1, rfl, s1⟩ := hp
      obtain ⟨nm, hn, rfl⟩ := map_at hy
      obtain ⟨b, hb, rfl⟩ := map_at hn
      have hm : b ∈ ss := hLp.mem_iff.mp (List.mem_of_getElem? hb)
      have hwd := hS.nm.wd b.name (List.mem_map.mpr ⟨_, hm, rfl⟩)
      obtain ⟨htold, ⟨w', hw', hcols, hcl⟩, hcap⟩ := hS.ok b hm
      refine ⟨_, rfl, .str b.name, rfl, wd_thg hwd, fun H1 s2 => ⟨_, rfl, ?_⟩⟩
      have s3 := (s0.trans s1).trans s2
      show if (!wordB b.name) = true then _ else _
      rw [wd_b hwd]
      refine ⟨_, rfl, _, rfl, v, _, rfl, (hv.same s3).at_ (sv_nd hS) (sv_val hS hm), _, rfl, b.at_, t, b.ga, b.tab, b.cols, b.cap, w', ts, m, rfl, htold.mono fun _ _ e => s3 _ _ e, ht.same s3, hT, hw', hcols, hcl, hcap, fun H2 s4 => ⟨_, rfl, ?_⟩⟩
      exact ⟨_, rfl, (s1.trans s2).trans s4⟩
    · obtain ⟨y1, rfl, s1⟩ := hp
      exact q H' (s0.trans s1)
end
/-! ### the order of names -/
section
variable {P : Program} {w : World} {K : PySem.W.Frag} {mg : Str → Option Value} {base : Heap} {a : Nat → Addr} {d : Nat → FuncData}
def spChkC : Sp := fun vs H Q _ => ∃ (v t k : Addr) (ts : List (Str × Int)) (ks : List KeyE) (ss : List SvE) (m n : Nat), vs = [.ref v, .ref t, .ref k] ∧ DctAt H v (svK ss) ∧ DctAt H t (tabK ts) ∧ DctAt H k (keyK ks) ∧ Tabs ts m 4 ∧ Keys H ts ks ∧ Svcs H ts ks ss n ∧ n ≤ 8 ∧ ∀ H', Same H H' → Q .non H'
theorem ok_check_capped (T : Txt K mg a d) : FnOk P w K mg base CX0 2 (a 46) (d 46) ["services", "tables", "keys"] spChkC := by
  have G42 : FnOk P w K mg base CX0 1 (a 42) (d 42) ["service", "tables", "keys"] spIsWh := ok_is_wh T
  refine T.F46.ok sc__check_capped (fun vs H Q E h => ?_) (fun cdv A outer s H vs Q E hr h => ?_)
  · obtain ⟨v, t, k, ts, ks, ss, m, n, rfl, _⟩ := h
    rfl
  · obtain ⟨v, t, k, ts, ks, ss, m, n, rfl, hv, ht, hk, hT, hK, hS, hn, q⟩ := h
    have hlen : ss.length = n := by rw [← hS.nm.len, List.length_map]
    obtain ⟨kd, zs, e, kl, ek, z64, _, hL⟩ := DctAt.names (f := (·.name)) hv (fun _ => rfl) (by omega)
    refine ⟨_, (pss_cons (ps_set (i := 3) sc__check_capped.nd rfl (.inl rfl) (pe_lst pa_nil))
  (pss_one (ps_for PassesOwn.never rfl (pi_list (pe_callB (id := "sorted")  (call_sortedD rfl) (by rfl) T.z_sorted (by decide +kernel) (pa_cons (pv 0) pa_nil))) (pg_name (i := 4) sc__check_capped.nd rfl (.inl rfl))
    (pss_cons (ps_set (i := 5) sc__check_capped.nd rfl (.inl rfl) (pe_dget (hu_of hr) (pv 0) (pv 4) (fun _ _ => rfl)))
      (pss_one (ps_if (pt_not (pt_val (pe_call G42 (hr.mono (by decide)) (by rfl) T.g42 T.F42.kp T.b42 .nil pass0 (pa_cons (pv 5) (pa_cons (pv 1) (pa_cons (pv 2) pa_nil))))))
        (pss_cons (ps_if (pt_cmpR op_in_seq (pe_ix ix_tup (pv 5) pe_int (fun _ _ => rfl)) (pv 3) (by rfl))
            (pss_one ps_never)
            pss_nil)
          (pss_one (ps_expr (pe_bm PySem.F.plainAttrs_list PySem.F.slot_list_append PySem.F.type_list_append mt_append (pv 3) (pa_cons (pe_ix ix_tup (pv 5) pe_int (fun _ _ => rfl)) pa_nil)))))
        pss_nil)))))), ?_⟩
    refine ⟨Nat.zero_le _, fun f hf => ?_⟩
    have s0 := same_upd (o := .lst []) hf
    refine ⟨_, rfl, v, kd, zs, rfl, .inl (s0 _ _ e), ek, z64, fun ys p yp _ hp => ⟨p, rfl, ?_⟩⟩
    obtain ⟨L, hLp, rfl⟩ := hL ys yp
    have s1 := same_upd (o := .lst ((L.map (·.name)).map V.str)) hp
    have nfp : f ≠ p := ne_of_none upd_same hp
    have nd : (fillE ts ks L).Nodup := (fillE_perm hLp).nodup_iff.mpr hS.one
    have lL : L.length ≤ 8 := by rw [hLp.length_eq]; omega
    refine ⟨⟨_, .of upd_same⟩, for_list (K := K) (a := p) (xs := (L.map (·.name)).map V.str) (fun i σ H' => ∃ y4 y5 : Option V, σ = [some (.ref v), some (.ref t), some (.ref k), some (.ref f), y4, y5] ∧ H' p = some (.lst ((L.map (·.name)).map V.str)) ∧ H' f = some (.lst ((fillE ts ks (L.take i)).map V.str)) ∧ Same H H')
      ⟨none, none, rfl, upd_same, s1 _ _ upd_same, s0.trans s1⟩ (fun i σ H' _ hp => ?_) (fun i y σ H' hy hp => ?_) (fun σ H' hp => ?_)⟩
    · obtain ⟨y4, y5, rfl, hp', _⟩ := hp
      exact .of hp'
    · obtain ⟨y4, y5, rfl, hp', hf', sm⟩ := hp
      obtain ⟨nm, hn', rfl⟩ := map_at hy
      obtain ⟨b, hb, rfl⟩ := map_at hn'
      have hm : b ∈ ss := hLp.mem_iff.mp (List.mem_of_getElem? hb)
      obtain ⟨htold, ⟨w', hw', hcols, hcl⟩, hcap⟩ := hS.ok b hm
      have hw2 := widthAt_mem hT.nm.nd hw'
      have tk : L.take (i + 1) = L.take i ++ [b] := by
        rw [List.take_add_one, hb]
        rfl
      have fs := fillE_snoc ts ks (L.take i) b
      rw [← tk] at fs
      have we : whE ts ks b = isWh w' ks b.tab b.cols b.cap := by
        unfold whE
        rw [hw2]
      refine ⟨_, rfl, _, rfl, v, _, rfl, (hv.same sm).at_ (sv_nd hS) (sv_val hS hm), ?_⟩
      refine ⟨_, rfl, _, rfl, _, rfl, b.at_, t, k, b.ga, b.tab, b.cols, b.cap, w', ts, ks, m, rfl, htold.mono fun _ _ e => sm _ _ e, ht.same sm, hk.same sm, hT, hK.mono fun _ _ e => sm _ _ e, hw', by omega, fun H2 s2 => ⟨_, rfl, ?_⟩⟩
      have sm2 := sm.trans s2
      cases ew : isWh w' ks b.tab b.cols b.cap with
      | true =>
        rw [we, ew, if_pos rfl, List.append_nil] at fs
        refine ⟨_, _, rfl, s2 _ _ hp', ?_, sm2⟩
        rw [fs]
        exact s2 _ _ hf'
      | false =>
        rw [we, ew, if_neg (by decide)] at fs
        have hno : b.tab ∉ fillE ts ks (L.take i) := fun hx => by
          have nd2 : (fillE ts ks (L.take (i + 1))).Nodup := nd.sublist (fillE_take L (i + 1))
          rw [fs] at nd2
          exact (List.nodup_append.mp nd2).2.2 b.tab hx b.tab (by simp) rfl
        have hat := htold.tup
        refine ⟨_, rfl, _, _, _, _, rfl, rfl, .of (sm2 _ _ hat), atI_nat (j := 0) rfl, _, rfl, f, _, rfl, .inl (.of (s2 _ _ hf')), rfl, flat_strs _, _, rfl, ?_⟩
        show if inV (.str b.tab) ((fillE ts ks (L.take i)).map V.str) = true then _ else _
        rw [inV_strs, decide_eq_false hno]
        refine ⟨_, rfl, .inl ⟨rfl, _, .of (s2 _ _ hf')⟩, _, rfl, _, _, _, _, rfl, rfl, .of (sm2 _ _ hat), atI_nat (j := 0) rfl, f, _, _, rfl, rfl, s2 _ _ hf', ?_, _, _, rfl, ?_, ?_, ?_⟩
        · rw [List.length_map]
          unfold fillE
          rw [List.length_map]
          have l1 := List.length_filter_le (fun b => !whE ts ks b) (L.take i)
          rw [List.length_take] at l1
          exact Nat.lt_of_le_of_lt (by omega : _ ≤ 8) (by decide)
        · rw [upd_ne nfp.symm]
          exact s2 _ _ hp'
        · rw [fs, List.map_append]
          exact upd_same
        · intro x o ex
          rw [upd_ne (ne_of_none ex hf)]
          exact sm2 x o ex
    · obtain ⟨y4, y5, rfl, hp', hf', sm⟩ := hp
      exact q H' sm
end
/-! ### the class -/
/-- a Schema at p -/
structure SchO (C p dx d1 d2 d3 : Addr) (H : Hp) (ts : List (Str × Int)) (ks : List KeyE) (ss : List SvE) (m n : Nat) : Prop where
  ob : H p = some (.ins C dx (fldsS d1 d2 d3))
  tb : DctAt H d1 (tabK ts)
  ky : DctAt H d2 (keyK ks)
  sv : DctAt H d3 (svK ss)
  hT : Tabs ts m 4
  hK : Keys H ts ks
  hS : Svcs H ts ks ss n
  m5 : m ≤ 5
  n8 : n ≤ 8
def SchAt (C p : Addr) (H : Hp) (ts : List (Str × Int)) (ks : List KeyE) (ss : List SvE) (m n : Nat) : Prop := ∃ dx d1 d2 d3, SchO C p dx d1 d2 d3 H ts ks ss m n
theorem SchO.same {C p dx d1 d2 d3 : Addr} {H H' : Hp} {ts : List (Str × Int)} {ks : List KeyE} {ss : List SvE} {m n : Nat} (h : SchO C p dx d1 d2 d3 H ts ks ss m n) (s : Same H H') : SchO C p dx d1 d2 d3 H' ts ks ss m n :=
  ⟨s _ _ h.ob, h.tb.same s, h.ky.same s, h.sv.same s, h.hT, h.hK.mono fun _ _ e => s _ _ e, h.hS.mono fun _ _ e => s _ _ e, h.m5, h.n8⟩
theorem SchAt.same {C p : Addr} {H H' : Hp} {ts : List (Str × Int)} {ks : List KeyE} {ss : List SvE} {m n : Nat} (h : SchAt C p H ts ks ss m n) (s : Same H H') : SchAt C p H' ts ks ss m n := by
  obtain ⟨dx, d1, d2, d3, o⟩ := h
  exact ⟨dx, d1, d2, d3, o.same s⟩
section
variable {P : Program} {w : World} {K : PySem.W.Frag} {mg : Str → Option Value} {base : Heap} {a : Nat → Addr} {d : Nat → FuncData}
def spSInit (C : Addr) : Sp := fun vs H Q _ => ∃ (p dx t k v : Addr) (ts : List (Str × Int)) (ks : List KeyE) (ss : List SvE) (m n : Nat), vs = [.ref p, .ref t, .ref k, .ref v] ∧ H p = some (.ins C dx []) ∧ DctAt H t (tabK ts) ∧ DctAt H k (keyK ks) ∧ DctAt H v (svK ss) ∧ Tabs ts m 4 ∧ Keys H ts ks ∧ Svcs H ts ks ss n ∧ 1 ≤ m ∧ m ≤ 5 ∧ 1 ≤ n ∧ n ≤ 8 ∧
  ∀ H' d1 d2 d3, SchO C p dx d1 d2 d3 H' ts ks ss m n → H d1 = none → H d2 = none → H d3 = none → (∀ b o, b ≠ p → H b = some o → H' b = some o) → Q .non H'
theorem ok_sinit (T : Txt K mg a d) : FnOk P w K mg base CX0 5 (a 5800) (d 5800) ["self", "tables", "keys", "services"] (spSInit (a 48)) := by
  have G43 : FnOk P w K mg base CX0 3 (a 43) (d 43) ["tables"] spChkT := ok_check_tables T
  have G44 : FnOk P w K mg base CX0 4 (a 44) (d 44) ["keys", "tables"] spChkK := ok_check_keys T
  have G45 : FnOk P w K mg base CX0 4 (a 45) (d 45) ["services", "tables"] spChkS := ok_check_services T
  have G46 : FnOk P w K mg base CX0 2 (a 46) (d 46) ["services", "tables", "keys"] spChkC := ok_check_capped T
  have G47 : FnOk P w K mg base CX0 1 (a 47) (d 47) ["things"] spCopied := ok_copied T
  refine T.F5800.ok sc_Schema___init__ (fun vs H Q E h => ?_) (fun cdv A outer s H vs Q E hr h => ?_)
  · obtain ⟨p, dx, t, k, v, ts, ks, ss, m, n, rfl, _⟩ := h
    rfl
  · obtain ⟨p, dx, t, k, v, ts, ks, ss, m, n, rfl, hp, ht, hk, hv, hT, hK, hS, hm1, hm2, hn1, hn2, q⟩ := h
    have lt : ts.length = m := hT.len
    have lk : ks.length ≤ 5 := by
      have := hK.le
      omega
    have ls : ss.length = n := by rw [← hS.nm.len, List.length_map]
    refine ⟨_, (pss_cons (ps_expr (pe_call G43 (hr.mono (by decide)) (by rfl) T.g43 T.F43.kp T.b43 .nil pass0 (pa_cons (pv 1) pa_nil)))
  (pss_cons (ps_expr (pe_call G44 (hr.mono (by decide)) (by rfl) T.g44 T.F44.kp T.b44 .nil pass0 (pa_cons (pv 2) (pa_cons (pv 1) pa_nil))))
  (pss_cons (ps_expr (pe_call G45 (hr.mono (by decide)) (by rfl) T.g45 T.F45.kp T.b45 .nil pass0 (pa_cons (pv 3) (pa_cons (pv 1) pa_nil))))
  (pss_cons (ps_expr (pe_call G46 (hr.mono (by decide)) (by rfl) T.g46 T.F46.kp T.b46 .nil pass0 (pa_cons (pv 3) (pa_cons (pv 1) (pa_cons (pv 2) pa_nil)))))
  (pss_cons (ps_fld (pv 0) (pe_call G47 (hr.mono (by decide)) (by rfl) T.g47 T.F47.kp T.b47 .nil pass0 (pa_cons (pv 1) pa_nil)) rfl)
  (pss_cons (ps_fld (pv 0) (pe_call G47 (hr.mono (by decide)) (by rfl) T.g47 T.F47.kp T.b47 .nil pass0 (pa_cons (pv 2) pa_nil)) rfl)
  (pss_one (ps_fld (pv 0) (pe_call G47 (hr.mono (by decide)) (by rfl) T.g47 T.F47.kp T.b47 .nil pass0 (pa_cons (pv 3) pa_nil)) rfl)))))))), ?_⟩
    refine ⟨_, rfl, t, ts, m, rfl, ht, hT, hm1, hm2, fun H1 s1 => ?_⟩
    refine ⟨_, rfl, _, rfl, k, t, ts, ks, m, rfl, hk.same s1, ht.same s1, hT, hK.mono fun _ _ e => s1 _ _ e, hm2, fun H2 s2 => ?_⟩
    have s12 := s1.trans s2
    refine ⟨_, rfl, _, rfl, v, t, ts, ks, ss, m, n, rfl, hv.same s12, ht.same s12, hT, hS.mono fun _ _ e => s12 _ _ e, hn1, hn2, fun H3 s3 => ?_⟩
    have s13 := s12.trans s3
    refine ⟨_, rfl, _, rfl, _, rfl, v, t, k, ts, ks, ss, m, n, rfl, hv.same s13, ht.same s13, hk.same s13, hT, hK.mono fun _ _ e => s13 _ _ e, hS.mono fun _ _ e => s13 _ _ e, hn2, fun H4 s4 => ?_⟩
    have s14 := s13.trans s4
    -- the three copies
    refine ⟨_, rfl, t, tabK ts, ts.map (·.1), rfl, ht.same s14, keys_tab ts, hT.nm.nd, by rw [List.length_map]; omega, fun d1 H5 f1 D1 s5 => ?_⟩
    have hp5 := (s14.trans s5) _ _ hp
    refine ⟨_, rfl, p, _, dx, _, rfl, hp5, T.cl_48, T.no_48__tables, by show 0 < 1000; decide, ?_⟩
    generalize hH6 : upd H5 p _ = H6
    have hp6 : H6 p = some (.ins (a 48) dx (putF "_tables" (.ref d1) [])) := by rw [← hH6]; exact upd_same
    have o6 : ∀ b o, b ≠ p → H5 b = some o → H6 b = some o := fun b o n e => by rw [← hH6, upd_ne n]; exact e
    have o06 : ∀ b o, b ≠ p → H b = some o → H6 b = some o := fun b o n e => o6 b o n ((s14.trans s5) _ _ e)
    have kn : ((keyK ks).map (·.1)) = (ks.map (·.1)).map Sum.inr := keys_key ks
    refine ⟨_, rfl, k, keyK ks, ks.map (·.1), rfl, hk.but hp o06, kn, hK.nd, by rw [List.length_map]; omega, fun d2 H7 f2 D2 s7 => ?_⟩
    have hp7 := s7 _ _ hp6
    refine ⟨_, rfl, p, _, dx, _, rfl, hp7, T.cl_48, T.no_48__keys, by show 1 < 1000; decide, ?_⟩
    generalize hH8 : upd H7 p _ = H8
    have hp8 : H8 p = some (.ins (a 48) dx (putF "_keys" (.ref d2) (putF "_tables" (.ref d1) []))) := by rw [← hH8]; exact upd_same
    have o8 : ∀ b o, b ≠ p → H7 b = some o → H8 b = some o := fun b o n e => by rw [← hH8, upd_ne n]; exact e
    have o68 : ∀ b o, b ≠ p → H6 b = some o → H8 b = some o := fun b o n e => o8 b o n (s7 _ _ e)
    have o08 : ∀ b o, b ≠ p → H b = some o → H8 b = some o := fun b o n e => o68 b o n (o06 b o n e)
    refine ⟨_, rfl, v, svK ss, ss.map (·.name), rfl, hv.but hp o08, keys_sv ss, hS.nm.nd, by rw [List.length_map]; omega, fun d3 H9 f3 D3 s9 => ?_⟩
    have hp9 := s9 _ _ hp8
    have l2 : ∀ d1 d2 : Addr, (putF "_keys" (.ref d2) (putF "_tables" (.ref d1) ([] : List (Str × V)))).length < 1000 := fun d1 d2 => by
      have e : putF "_keys" (.ref d2) (putF "_tables" (.ref d1) ([] : List (Str × V))) = [(("_tables" : Str), V.ref d1), (("_keys" : Str), V.ref d2)] := by
        show (if ("_tables" : Str) = "_keys" then _ else (("_tables" : Str), V.ref d1) :: putF "_keys" (.ref d2) []) = _
        rw [if_neg (by decide +kernel)]
        rfl
      rw [e]
      show 2 < 1000
      decide
    refine ⟨_, rfl, p, _, dx, _, rfl, hp9, T.cl_48, T.no_48__services, l2 _ _, ?_⟩
    generalize hH : upd H9 p _ = Hz
    have hpz : Hz p = some (.ins (a 48) dx (fldsS d1 d2 d3)) := by rw [← hH]; exact upd_same
    have oz : ∀ b o, b ≠ p → H9 b = some o → Hz b = some o := fun b o n e => by rw [← hH, upd_ne n]; exact e
    have o0z : ∀ b o, b ≠ p → H b = some o → Hz b = some o := fun b o n e => oz b o n (s9 _ _ (o08 b o n e))
    have tz : ∀ b xs, H b = some (.tup xs) → Hz b = some (.tup xs) := fun b xs e => o0z b _ (ne_of e hp (by intro z; cases z)) e
    have free : ∀ {x : Addr} {G : Hp} {o : HO}, G p = some o → (∀ b o, b ≠ p → H b = some o → G b = some o) → G x = none → H x = none := fun {x G o} hG k e => by
      cases e' : H x with
      | none => rfl
      | some u =>
        by_cases n : x = p
        · rw [n, hG] at e
          cases e
        · rw [k x u n e'] at e
          cases e
    refine q Hz d1 d2 d3 ⟨hpz, (((D1.but hp5 o6).same s7).but hp7 o8 |>.same s9).but hp9 oz, ((D2.but hp7 o8).same s9).but hp9 oz, D3.but hp9 oz, hT, hK.mono tz, hS.mono tz, hm2, hn2⟩ (s14.free f1) (free hp6 o06 f2) (free hp8 o08 f3) o0z
/-! ### its properties and lists of names -/
def spProp (C : Addr) (f : List (Str × Int) → List KeyE → List SvE → List (Key × V)) : Sp := fun vs H Q _ => ∃ (p : Addr) (ts : List (Str × Int)) (ks : List KeyE) (ss : List SvE) (m n : Nat), vs = [.ref p] ∧ SchAt C p H ts ks ss m n ∧ ∀ D H', H D = none → DctAt H' D (f ts ks ss) → Same H H' → Q (.ref D) H'
def spNms (C : Addr) (f : List (Str × Int) → List SvE → List Str) : Sp := fun vs H Q _ => ∃ (p : Addr) (ts : List (Str × Int)) (ks : List KeyE) (ss : List SvE) (m n : Nat), vs = [.ref p] ∧ SchAt C p H ts ks ss m n ∧ ∀ l ys H', H l = none → H' l = some (.lst (ys.map V.str)) → ys.Perm (f ts ss) → PyProof.Rows.sortedS ys = true → Same H H' → Q (.ref l) H'
theorem ok_service_names (T : Txt K mg a d) : FnOk P w K mg base CX0 1 (a 5806) (d 5806) ["self"] (spNms (a 48) fun _ ss => ss.map (·.name)) := by
  refine T.F5806.ok sc_Schema_service_names (fun vs H Q E h => ?_) (fun cdv A outer s H vs Q E hr h => ?_)
  · obtain ⟨p, ts, ks, ss, m, n, rfl, _⟩ := h
    rfl
  · obtain ⟨p, ts, ks, ss, m, n, rfl, ⟨dx, d1, d2, d3, o⟩, q⟩ := h
    have ls : ss.length = n := by rw [← o.hS.nm.len, List.length_map]
    obtain ⟨kd, zs, e, kl, ek, z64, zp, _⟩ := DctAt.names (f := (·.name)) o.sv (fun _ => rfl) (by have := o.n8; omega)
    exact ⟨_, (pss_one (ps_ret (pe_callB (id := "sorted")  (call_sortedD rfl) (by rfl) T.z_sorted (by decide +kernel) (pa_cons (pe_fld (pv 0) rfl) pa_nil)))), _, rfl, p, _, dx, _, _, rfl, o.ob, T.cl_48, T.no_48__services, flds_s _ _ _, d3, kd, zs, rfl, .inl e, ek, z64, fun ys l yp so hl => q l ys _ hl upd_same (yp.trans zp) so (same_upd hl)⟩
end
section
variable {P : Program} {w : World} {K : PySem.W.Frag} {mg : Str → Option Value} {base : Heap} {a : Nat → Addr} {d : Nat → FuncData}
/-! ### an unknown name -/
def spUInit (C : Addr) : Sp := fun vs H Q _ => ∃ (x : Addr) (v : V), vs = [.ref x, v] ∧ H x = some (exo x C none) ∧ ∀ dx, H dx = none → dx ≠ x → Q .non (upd (upd H dx (exd dx [(("name" : Str), v)])) x (exo x C (some dx)))
theorem ok_uinit (T : Txt K mg a d) : FnOk P w K mg base CX0 1 (a 1300) (d 1300) ["self", "name"] (spUInit (a 3)) := by
  refine T.F1300.ok sc_UnknownName___init__ (fun vs H Q E h => ?_) (fun cdv A outer s H vs Q E hr h => ?_)
  · obtain ⟨x, v, rfl, _⟩ := h
    rfl
  · obtain ⟨x, v, rfl, hx, q⟩ := h
    exact ⟨_, (pss_one (ps_ost (pv 0) (pv 1))), _, rfl, _, rfl, x, _, rfl, T.x_3, T.no_3_name, .inl ⟨hx, fun dx hdx ne => q dx hdx ne⟩⟩
/-- how an UnknownName(v) goes out: its dict dx, new -/
def Unk (C : Addr) (v : V) (H : Hp) (E : XK) : Prop := ∀ dx H', H dx = none → H' dx = some (.xd [(("name" : Str), v)]) → Same H H' → E (.ref C) (some dx) H'
theorem unk_raise {C : Addr} {v : V} {H : Hp} {E : XK} (k : Unk C v H E) : ([v] : List V).length ≤ 1000 ∧ ∀ x, H x = none → spUInit C (.ref x :: ([v] ++ [])) (upd H x (exo x C none))
    (fun u H2 => u = .non ∧ ∃ (dd : Addr) (fs : List (Str × V)), H2 x = some (exo x C (some dd)) ∧ H2 dd = some (exd dd fs) ∧ H dd = none ∧ E (.ref C) (some dd) (upd (del H2 x) dd (.xd fs))) (fun _ _ _ => False) := by
  refine ⟨by show 1 ≤ 1000; decide, fun x hx => ⟨x, v, rfl, upd_same, fun dx hdx ne => ⟨rfl, dx, _, upd_same, by rw [upd_ne ne]; exact upd_same, ?_, ?_⟩⟩⟩
  · rw [upd_ne ne] at hdx
    exact hdx
  · rw [upd_ne ne] at hdx
    refine k dx _ hdx upd_same fun b o e => ?_
    have nb : b ≠ x := ne_of_none e hx
    have nd : b ≠ dx := ne_of_none e hdx
    rw [upd_ne nd, del_ne nb, upd_ne nb, upd_ne nd, upd_ne nb]
    exact e
/-- what is asked of a name: told, or unknown -/
def spAsk (C CU : Addr) (f g : List (Str × Int) → List KeyE → List SvE → Str → Option V) : Sp := fun vs H Q E => ∃ (p : Addr) (n : Str) (ts : List (Str × Int)) (ks : List KeyE) (ss : List SvE) (mt ms : Nat), vs = [.ref p, .str n] ∧ SchAt C p H ts ks ss mt ms ∧
  (∀ v, f ts ks ss n = some v → ∃ u, g ts ks ss n = some u ∧ Q u H) ∧ (f ts ks ss n = none → Unk CU (.str n) H E)
theorem ok_width_of (T : Txt K mg a d) : FnOk P w K mg base (L2.CX P w) 4 (a 5808) (d 5808) ["self", "table"] (spAsk (a 48) (a 3) (fun ts _ _ n => valV (tabK ts) (Sum.inr n)) (fun ts _ _ n => valV (tabK ts) (Sum.inr n))) := by
  have G38 : FnOk P w K mg base CX0 1 (a 38) (d 38) ["thing", "names"] spNameIn := ok_name_in T
  have G1300 : FnOk P w K mg base CX0 1 (a 1300) (d 1300) ["self", "name"] (spUInit (a 3)) := ok_uinit T
  refine T.F5808.okX sc_Schema_width_of (fun vs H Q E h => ?_) (fun cdv A outer s H vs Q E hr h => ?_)
  · obtain ⟨p, n, ts, ks, ss, mt, ms, rfl, _⟩ := h
    rfl
  · obtain ⟨p, n, ts, ks, ss, mt, ms, rfl, ⟨dx, d1, d2, d3, o⟩, q1, q2⟩ := h
    refine ⟨_, (pss_cons (ps_if (pt_not (pt_val (pe_call G38 (hr.mono (by decide)) (by rfl) T.g38 T.F38.kp T.b38 .nil pass0 (pa_cons (pv 1) (pa_cons (pe_fld (pv 0) rfl) pa_nil)))))
    (pss_one (ps_raise rfl (takes_of rfl rfl rfl rfl) (pmk_oex T.x_3 T.in_3 T.ti_3 G1300 (hr.mono (by decide)) T.b1300 .nil pass0 (by rfl) T.cg_3 (pa_cons (pv 1) pa_nil))))
    pss_nil)
  (pss_one (ps_ret (pe_dget (hu_of hr) (pe_fld (pv 0) rfl) (pv 1) (fun _ _ => rfl))))), ?_⟩
    refine ⟨_, rfl, _, rfl, p, _, dx, _, _, rfl, o.ob, T.cl_48, T.no_48__tables, flds_t _ _ _, n, d1, tabK ts, rfl, o.tb, tab_nd o.hT, ?_⟩
    cases e : valV (tabK ts) (Sum.inr n) with
    | none => exact ⟨_, rfl, _, rfl, unk_raise (q2 e)⟩
    | some v =>
      obtain ⟨u, hu, q⟩ := q1 v e
      exact ⟨_, rfl, _, rfl, p, _, dx, _, _, rfl, o.ob, T.cl_48, T.no_48__tables, flds_t _ _ _, _, rfl, d1, u, rfl, o.tb.at_ (tab_nd o.hT) hu, q⟩
theorem ok_service_of (T : Txt K mg a d) : FnOk P w K mg base (L2.CX P w) 4 (a 5810) (d 5810) ["self", "name"] (spAsk (a 48) (a 3) (fun _ _ ss n => valV (svK ss) (Sum.inr n)) (fun _ _ ss n => valV (svK ss) (Sum.inr n))) := by
  have G38 : FnOk P w K mg base CX0 1 (a 38) (d 38) ["thing", "names"] spNameIn := ok_name_in T
  have G1300 : FnOk P w K mg base CX0 1 (a 1300) (d 1300) ["self", "name"] (spUInit (a 3)) := ok_uinit T
  refine T.F5810.okX sc_Schema_service_of (fun vs H Q E h => ?_) (fun cdv A outer s H vs Q E hr h => ?_)
  · obtain ⟨p, n, ts, ks, ss, mt, ms, rfl, _⟩ := h
    rfl
  · obtain ⟨p, n, ts, ks, ss, mt, ms, rfl, ⟨dx, d1, d2, d3, o⟩, q1, q2⟩ := h
    refine ⟨_, (pss_cons (ps_if (pt_not (pt_val (pe_call G38 (hr.mono (by decide)) (by rfl) T.g38 T.F38.kp T.b38 .nil pass0 (pa_cons (pv 1) (pa_cons (pe_fld (pv 0) rfl) pa_nil)))))
    (pss_one (ps_raise rfl (takes_of rfl rfl rfl rfl) (pmk_oex T.x_3 T.in_3 T.ti_3 G1300 (hr.mono (by decide)) T.b1300 .nil pass0 (by rfl) T.cg_3 (pa_cons (pv 1) pa_nil))))
    pss_nil)
  (pss_one (ps_ret (pe_dget (hu_of hr) (pe_fld (pv 0) rfl) (pv 1) (fun _ _ => rfl))))), ?_⟩
    refine ⟨_, rfl, _, rfl, p, _, dx, _, _, rfl, o.ob, T.cl_48, T.no_48__services, flds_s _ _ _, n, d3, svK ss, rfl, o.sv, sv_nd o.hS, ?_⟩
    cases e : valV (svK ss) (Sum.inr n) with
    | none => exact ⟨_, rfl, _, rfl, unk_raise (q2 e)⟩
    | some v =>
      obtain ⟨u, hu, q⟩ := q1 v e
      exact ⟨_, rfl, _, rfl, p, _, dx, _, _, rfl, o.ob, T.cl_48, T.no_48__services, flds_s _ _ _, _, rfl, d3, u, rfl, o.sv.at_ (sv_nd o.hS) hu, q⟩
/-! ### is_whole, capped_names -/
def svAt (ss : List SvE) (n : Str) : Option SvE := ss.find? fun b => decide (b.name = n)
theorem svAt_val (n : Str) : ∀ ss : List SvE, valV (svK ss) (Sum.inr n) = (svAt ss n).map fun b => V.ref b.at_
  | [] => rfl
  | b :: ks => by
    have ih := svAt_val n ks
    unfold svAt svK at ih ⊢
    rw [List.map_cons]
    by_cases e : b.name = n
    · rw [valV_pos (by rw [e])]
      simp [e]
    · rw [valV_neg (fun z => e (Sum.inr.inj z)), ih]
      simp [e]
theorem svAt_mem {ss : List SvE} {n : Str} {b : SvE} (h : svAt ss n = some b) : b ∈ ss ∧ b.name = n := by
  unfold svAt at h
  exact ⟨List.mem_of_find?_eq_some h, by simpa using List.find?_some h⟩
def spAskW (C CU : Addr) : Sp := fun vs H Q E => ∃ (p : Addr) (n : Str) (ts : List (Str × Int)) (ks : List KeyE) (ss : List SvE) (mt ms : Nat), vs = [.ref p, .str n] ∧ SchAt C p H ts ks ss mt ms ∧
  (∀ b, svAt ss n = some b → ∀ H', Same H H' → Q (.bl (whE ts ks b)) H') ∧ (svAt ss n = none → Unk CU (.str n) H E)
end
def Low (s : Str) : Prop := ∀ c ∈ s.cps.toList, c < 128
theorem low_ok {s : Str} (h : Low s) : PyData.strOk s = true := by
  unfold PyData.strOk
  rw [Array.all_eq_true']
  intro c hc
  have := h c (by simpa using hc)
  exact decide_eq_true (by omega)
theorem dp_strs {K : PySem.W.Frag} {H : Hp} : ∀ ns : List Str, DpAll K H (ns.map V.str) (ns.map PyData.str)
  | [] => .nil
  | n :: ns => .cons (.str n) (dp_strs ns)
theorem lay_strs : ∀ ns : List Str, (∀ s ∈ ns, Low s) → PyData.canLayAll0 (ns.map PyData.str) = true ∧ PyData.depthAll (ns.map PyData.str) = 0
  | [], _ => by simp [PyData.canLayAll0, PyData.depthAll]
  | n :: ns, h => by
    obtain ⟨h1, h2⟩ := lay_strs ns fun x hx => h x (List.mem_cons_of_mem _ hx)
    simp only [List.map_cons, PyData.canLayAll0, PyData.depthAll, PyData.canLay0, PyData.depth, low_ok (h n List.mem_cons_self), h1, h2, Bool.and_self, true_and]
    rfl
theorem strs_data {K : PySem.W.Frag} {H : Hp} {ns : List Str} (h : ∀ s ∈ ns, Low s) : ∃ dd, (∀ r, H r = some (.lst (ns.map V.str)) → Dp K H (.ref r) dd) ∧ SeqAt.shaped dd = true ∧ PyData.eqv dd dd = true := by
  obtain ⟨h1, h2⟩ := lay_strs ns h
  have hc : (PyData.list (ns.map PyData.str)).canLay0 = true := by simp only [PyData.canLay0, h1]
  refine ⟨.list (ns.map PyData.str), fun r hr => .lst (.of hr) (dp_strs ns), ?_, PySem.SeqAt.eqv_refl _ hc⟩
  unfold SeqAt.shaped
  rw [hc, Bool.true_and]
  exact decide_eq_true (by simp only [PyData.depth, h2]; omega)
theorem wd_low {s : Str} (h : Wd s) : Low s := fun c hc => by
  have := (h.2.2 c hc).2
  omega
theorem str_shaped {x : Str} (h : Low x) : SeqAt.shaped (.str x) = true := by
  unfold SeqAt.shaped
  simp only [PyData.canLay0, PyData.depth, low_ok h]
  rfl
theorem strs_shapedL {ns : List Str} (h : ∀ s ∈ ns, Low s) : SeqAt.shaped (.list (ns.map PyData.str)) = true := by
  obtain ⟨h1, h2⟩ := lay_strs ns h
  unfold SeqAt.shaped
  simp only [PyData.canLay0, PyData.depth, h1, h2]
  decide
/-! ### two dicts by what they hold -/
def valP (f : List (Key × PyData)) (k : Key) : Option PyData := (f.find? fun p => decide (p.1 = k)).map (·.2)
def optE : Option PyData → Option PyData → Bool
  | none, none => true
  | some a, some b => PyData.eqv a b
  | _, _ => false
def eqP (f g : List (Key × PyData)) : Bool := (f.length == g.length) && f.all fun p => match valP g p.1 with
  | none => false
  | some v => PyData.eqv p.2 v
theorem valP_mem {k : Key} {v : PyData} {f : List (Key × PyData)} (h : valP f k = some v) : (k, v) ∈ f := by
  unfold valP at h
  cases e : f.find? fun p => decide (p.1 = k) with
  | none => rw [e] at h; cases h
  | some p =>
    rw [e] at h
    have h1 := List.mem_of_find?_eq_some e
    have h2 : p.1 = k := by simpa using List.find?_some e
    have h3 : p = (k, v) := by rw [← h2, ← Option.some.inj h]
    rw [← h3]
    exact h1
theorem valP_nd {f : List (Key × PyData)} (nd : (f.map (·.1)).Nodup) {k : Key} {v : PyData} (h : (k, v) ∈ f) : valP f k = some v := by
  induction f with
  | nil => cases h
  | cons p f ih =>
    rw [List.map_cons] at nd
    obtain ⟨n1, n2⟩ := List.nodup_cons.mp nd
    unfold valP at ih ⊢
    rcases List.mem_cons.mp h with rfl | h
    · rw [List.find?_cons_of_pos (by simp)]
      rfl
    · rw [List.find?_cons_of_neg ?_]
      · exact ih n2 h
      · intro z
        have z' : p.1 = k := by simpa using z
        exact n1 (by rw [z']; exact List.mem_map.mpr ⟨_, h, rfl⟩)
theorem valP_none {f : List (Key × PyData)} {k : Key} (h : valP f k = none) : k ∉ f.map (·.1) := fun hm => by
  obtain ⟨p, hp, e⟩ := List.mem_map.mp hm
  unfold valP at h
  cases e2 : f.find? fun p => decide (p.1 = k) with
  | some q => rw [e2] at h; cases h
  | none =>
    have := List.find?_eq_none.mp e2 p hp
    simp [e] at this
theorem eqP_iff {f g : List (Key × PyData)} (nf : (f.map (·.1)).Nodup) (ng : (g.map (·.1)).Nodup) : eqP f g = true ↔ ∀ k, optE (valP f k) (valP g k) = true := by
  unfold eqP
  rw [Bool.and_eq_true, List.all_eq_true, beq_iff_eq]
  constructor
  · rintro ⟨h1, h2⟩ k
    have sub : ∀ x ∈ f.map (·.1), x ∈ g.map (·.1) := fun x hx => by
      obtain ⟨p, hp, rfl⟩ := List.mem_map.mp hx
      have := h2 p hp
      cases e : valP g p.1 with
      | none => rw [e] at this; cases this
      | some v => exact List.mem_map.mpr ⟨_, valP_mem e, rfl⟩
    have back := (nd_sub nf sub).2 (by rw [List.length_map, List.length_map, h1]; exact Nat.le_refl _)
    cases e1 : valP f k with
    | none =>
      cases e2 : valP g k with
      | none => rfl
      | some v => exact absurd (back k (List.mem_map.mpr ⟨_, valP_mem e2, rfl⟩)) (valP_none e1)
    | some u =>
      have := h2 _ (valP_mem e1)
      cases e2 : valP g k with
      | none =>
        have e2' : valP g (k, u).1 = none := e2
        rw [e2'] at this
        cases this
      | some v =>
        have e2' : valP g (k, u).1 = some v := e2
        rw [e2'] at this
        exact this
  · intro h
    have key : ∀ f g : List (Key × PyData), (∀ k, optE (valP f k) (valP g k) = true) → (f.map (·.1)).Nodup → ∀ x ∈ f.map (·.1), x ∈ g.map (·.1) := fun f g h nf x hx => by
      obtain ⟨p, hp, rfl⟩ := List.mem_map.mp hx
      have := h p.1
      rw [valP_nd nf (k := p.1) (v := p.2) hp] at this
      cases e : valP g p.1 with
      | none => rw [e] at this; cases this
      | some v => exact List.mem_map.mpr ⟨_, valP_mem e, rfl⟩
    have h' : ∀ k, optE (valP g k) (valP f k) = true := fun k => by
      have := h k
      cases e1 : valP f k <;> cases e2 : valP g k <;> rw [e1, e2] at this <;> try (first | rfl | cases this)
      show PyData.eqv _ _ = true
      rw [PySem.W.eqv_comm]
      exact this
    have l1 := (nd_sub nf (key f g h nf)).1
    have l2 := (nd_sub ng (key g f h' ng)).1
    rw [List.length_map, List.length_map] at l1 l2
    refine ⟨by omega, fun p hp => ?_⟩
    have := h p.1
    rw [valP_nd nf (k := p.1) (v := p.2) hp] at this
    cases e : valP g p.1 with
    | none => rw [e] at this; cases this
    | some v => rw [e] at this; exact this
theorem optE_comm (a b : Option PyData) : optE a b = optE b a := by
  cases a <;> cases b <;> try rfl
  exact PySem.W.eqv_comm _ _
theorem eqP_comm {f g : List (Key × PyData)} (nf : (f.map (·.1)).Nodup) (ng : (g.map (·.1)).Nodup) : eqP f g = eqP g f := by
  apply Bool.eq_iff_iff.mpr
  rw [eqP_iff nf ng, eqP_iff ng nf]
  exact ⟨fun h k => by rw [optE_comm]; exact h k, fun h k => by rw [optE_comm]; exact h k⟩
theorem permP_nd {f g : List (Key × PyData)} (p : f.Perm g) (ng : (g.map (·.1)).Nodup) : (f.map (·.1)).Nodup := (p.map (·.1)).nodup_iff.mpr ng
theorem valP_perm {f g : List (Key × PyData)} (p : f.Perm g) (ng : (g.map (·.1)).Nodup) (k : Key) : valP f k = valP g k := by
  cases h : valP g k with
  | some v => exact valP_nd (permP_nd p ng) (p.mem_iff.mpr (valP_mem h))
  | none =>
    cases h' : valP f k with
    | none => rfl
    | some v => rw [valP_nd ng (p.mem_iff.mp (valP_mem h'))] at h; cases h
theorem eqP_perm {f f' g g' : List (Key × PyData)} (p : f.Perm f') (q : g.Perm g') (nf : (f'.map (·.1)).Nodup) (ng : (g'.map (·.1)).Nodup) : eqP f g = eqP f' g' := by
  apply Bool.eq_iff_iff.mpr
  rw [eqP_iff (permP_nd p nf) (permP_nd q ng), eqP_iff nf ng]
  exact ⟨fun h k => by have := h k; rw [valP_perm p nf, valP_perm q ng] at this; exact this, fun h k => by rw [valP_perm p nf, valP_perm q ng]; exact h k⟩
theorem eqP_refl {f : List (Key × PyData)} (nf : (f.map (·.1)).Nodup) (hd : ∀ p ∈ f, SeqAt.shaped p.2 = true) : eqP f f = true := by
  rw [eqP_iff nf nf]
  intro k
  cases e : valP f k with
  | none => rfl
  | some v => exact PySem.SeqAt.eqv_refl v (PySem.SeqAt.canLay_of_shaped (hd _ (valP_mem e)))
/-! data at an address, two levels deep -/
def dt0 : V → PyData
  | .int i => .int i
  | .str s => .str s
  | .bl b => .bool b
  | _ => .none
def dt1 (H : Hp) : V → PyData
  | .ref a => match H a with
    | some (.tup xs) => .tuple (xs.map dt0)
    | _ => .none
  | v => dt0 v
def dt2 (H : Hp) : V → PyData
  | .ref a => match H a with
    | some (.tup xs) => .tuple (xs.map (dt1 H))
    | _ => .none
  | v => dt0 v
/-- a dict at t that holds this data, in any order -/
def DDat (K : PySem.W.Frag) (H : Hp) (t : Addr) (f : List (Key × PyData)) : Prop := ∃ ks, H t = some (.dK ks) ∧ (ks.map fun p => (p.1, dt2 H p.2)).Perm f ∧ ∀ p ∈ ks, Dp K H p.2 (dt2 H p.2) ∧ SeqAt.shaped (dt2 H p.2) = true
theorem valP_map (D : V → PyData) (k : Key) : ∀ ls : List (Key × V), valP (ls.map fun p => (p.1, D p.2)) k = (valV ls k).map D
  | [] => rfl
  | p :: ls => by
    have ih := valP_map D k ls
    unfold valP at ih ⊢
    rw [List.map_cons]
    by_cases e : p.1 = k
    · rw [valV_pos e, List.find?_cons_of_pos (by simp [e])]
      rfl
    · rw [valV_neg e, List.find?_cons_of_neg (by simp [e])]
      exact ih
theorem eqT_P (D : V → PyData) (ks ls : List (Key × V)) : L2.eqT D ks ls = eqP (ks.map fun p => (p.1, D p.2)) (ls.map fun p => (p.1, D p.2)) := by
  unfold L2.eqT eqP
  rw [List.length_map, List.length_map, List.all_map]
  congr 1
  congr 1
  funext p
  show (match valV ls p.1 with | none => false | some v => PyData.eqv (D p.2) (D v)) = match valP (ls.map fun p => (p.1, D p.2)) p.1 with | none => false | some v => PyData.eqv (D p.2) v
  rw [valP_map]
  cases valV ls p.1 <;> rfl
theorem rEqT_of {K : PySem.W.Frag} {H : Hp} {a b : Addr} {f g : List (Key × PyData)} {neg : Bool} {Q : VK} (h1 : DDat K H a f) (h2 : DDat K H b g) (nf : (f.map (·.1)).Nodup) (ng : (g.map (·.1)).Nodup) (q : Q (.bl (if neg then !eqP f g else eqP f g)) H) : rEqT K neg (.ref a) (.ref b) H Q := by
  obtain ⟨ks, e1, p1, d1⟩ := h1
  obtain ⟨ls, e2, p2, d2⟩ := h2
  refine ⟨a, b, ks, ls, dt2 H, rfl, rfl, e1, e2, d1, d2, ?_⟩
  rw [eqT_P, eqP_perm p1 p2 nf ng]
  exact q
theorem DDat.of {K : PySem.W.Frag} {H : Hp} {t : Addr} {kvs : List (Key × V)} {f : List (Key × PyData)} (h : DctAt H t kvs) (e : (kvs.map fun p => (p.1, dt2 H p.2)) = f) (hd : ∀ p ∈ kvs, Dp K H p.2 (dt2 H p.2) ∧ SeqAt.shaped (dt2 H p.2) = true) : DDat K H t f := by
  obtain ⟨ks, e1, p⟩ := h
  exact ⟨ks, e1, by rw [← e]; exact p.map _, fun x hx => hd x (p.mem_iff.mp hx)⟩
/-! the data of tables, keys and services -/
def tabP (ts : List (Str × Int)) : List (Key × PyData) := ts.map fun p => (Sum.inr p.1, .int p.2)
def keyP (ks : List KeyE) : List (Key × PyData) := ks.map fun b => (Sum.inr b.1, .tuple (b.2.2.map PyData.int))
def capP : Option Int → PyData
  | none => .none
  | some c => .int c
def svP (ss : List SvE) : List (Key × PyData) := ss.map fun b => (Sum.inr b.name, .tuple [.str b.tab, .tuple (b.cols.map PyData.int), capP b.cap])
theorem tabP_nd {ts : List (Str × Int)} {m : Nat} {wm : Int} (h : Tabs ts m wm) : ((tabP ts).map (·.1)).Nodup := by
  have := tab_nd h
  unfold tabK at this
  unfold tabP
  rw [List.map_map] at this ⊢
  exact this
theorem keyP_nd {H : Hp} {ts : List (Str × Int)} {ks : List KeyE} (h : Keys H ts ks) : ((keyP ks).map (·.1)).Nodup := by
  have := inr_nd h.nd
  unfold keyP
  rw [List.map_map] at this ⊢
  exact this
theorem svP_nd {ss : List SvE} {n : Nat} (h : Nms (ss.map (·.name)) n) : ((svP ss).map (·.1)).Nodup := by
  have := inr_nd h.nd
  unfold svP
  rw [List.map_map] at this ⊢
  exact this
theorem wd_strOk {s : Str} (h : Wd s) : PyData.strOk s = true := by
  unfold PyData.strOk
  rw [Array.all_eq_true_iff_forall_mem]
  intro c hc
  have := (h.2.2 c (Array.mem_toList_iff.mpr hc)).2
  exact decide_eq_true (by omega)
theorem ints_tup_shaped (ns : List Int) : SeqAt.shaped (.tuple (ns.map PyData.int)) = true := by
  obtain ⟨h1, h2⟩ := lay_ints ns
  show ((PyData.tuple (ns.map PyData.int)).canLay0 && decide ((PyData.tuple (ns.map PyData.int)).depth ≤ 64)) = true
  simp only [PyData.canLay0, PyData.depth, h1, h2]
  decide
theorem sv_shaped {n : Str} (hn : PyData.strOk n = true) (ns : List Int) (c : Option Int) : SeqAt.shaped (.tuple [.str n, .tuple (ns.map PyData.int), capP c]) = true := by
  obtain ⟨h1, h2⟩ := lay_ints ns
  show ((PyData.tuple [.str n, .tuple (ns.map PyData.int), capP c]).canLay0 && decide ((PyData.tuple [.str n, .tuple (ns.map PyData.int), capP c]).depth ≤ 64)) = true
  cases c <;> simp only [PyData.canLay0, PyData.depth, PyData.canLayAll0, PyData.depthAll, capP, h1, h2, hn] <;> decide
theorem dt1_ints {H : Hp} {a : Addr} {ns : List Int} (h : H a = some (.tup (ns.map V.int))) : dt1 H (.ref a) = .tuple (ns.map PyData.int) := by
  show (match H a with | some (.tup xs) => PyData.tuple (xs.map dt0) | _ => .none) = _
  rw [h]
  show PyData.tuple ((ns.map V.int).map dt0) = _
  rw [List.map_map]
  rfl
theorem dt2_ints {H : Hp} {a : Addr} {ns : List Int} (h : H a = some (.tup (ns.map V.int))) : dt2 H (.ref a) = .tuple (ns.map PyData.int) := by
  show (match H a with | some (.tup xs) => PyData.tuple (xs.map (dt1 H)) | _ => .none) = _
  rw [h]
  show PyData.tuple ((ns.map V.int).map (dt1 H)) = _
  rw [List.map_map]
  rfl
theorem dt_cap (H : Hp) (c : Option Int) : dt1 H (capV c) = capP c := by cases c <;> rfl
theorem dp_cap {K : PySem.W.Frag} {H : Hp} (c : Option Int) : Dp K H (capV c) (capP c) := by
  cases c with
  | none => exact .non
  | some i => exact .int i
theorem dt2_told {H : Hp} {v ga : Addr} {n : Str} {cs : List Int} {c : Option Int} (h : Told H v n ga cs c) : dt2 H (.ref v) = .tuple [.str n, .tuple (cs.map PyData.int), capP c] := by
  show (match H v with | some (.tup xs) => PyData.tuple (xs.map (dt1 H)) | _ => .none) = _
  rw [h.tup]
  show PyData.tuple [dt1 H (.str n), dt1 H (.ref ga), dt1 H (capV c)] = _
  rw [dt1_ints h.cols, dt_cap]
  rfl
theorem ddat_tab {K : PySem.W.Frag} {H : Hp} {t : Addr} {ts : List (Str × Int)} (h : DctAt H t (tabK ts)) : DDat K H t (tabP ts) := by
  refine .of h ?_ fun p hp => ?_
  · unfold tabK tabP
    rw [List.map_map]
    rfl
  · obtain ⟨b, _, rfl⟩ := List.mem_map.mp hp
    exact ⟨.int _, rfl⟩
theorem ddat_key {K : PySem.W.Frag} {H : Hp} {t : Addr} {ts : List (Str × Int)} {ks : List KeyE} (h : DctAt H t (keyK ks)) (hK : Keys H ts ks) : DDat K H t (keyP ks) := by
  refine .of h ?_ fun p hp => ?_
  · unfold keyK keyP
    rw [List.map_map]
    refine List.map_congr_left fun b hb => ?_
    show (Sum.inr b.1, dt2 H (.ref b.2.1)) = _
    rw [dt2_ints (hK.at_ b hb)]
  · obtain ⟨b, hb, rfl⟩ := List.mem_map.mp hp
    show Dp K H (.ref b.2.1) (dt2 H (.ref b.2.1)) ∧ SeqAt.shaped (dt2 H (.ref b.2.1)) = true
    rw [dt2_ints (hK.at_ b hb)]
    exact ⟨.tup (.of (hK.at_ b hb)) (dp_ints _), ints_tup_shaped _⟩
theorem ddat_sv {K : PySem.W.Frag} {H : Hp} {t : Addr} {ss : List SvE} (h : DctAt H t (svK ss)) (hS : ∀ b ∈ ss, Told H b.at_ b.tab b.ga b.cols b.cap ∧ Wd b.tab) : DDat K H t (svP ss) := by
  refine .of h ?_ fun p hp => ?_
  · unfold svK svP
    rw [List.map_map]
    refine List.map_congr_left fun b hb => ?_
    show (Sum.inr b.name, dt2 H (.ref b.at_)) = _
    rw [dt2_told (hS b hb).1]
  · obtain ⟨b, hb, rfl⟩ := List.mem_map.mp hp
    show Dp K H (.ref b.at_) (dt2 H (.ref b.at_)) ∧ SeqAt.shaped (dt2 H (.ref b.at_)) = true
    rw [dt2_told (hS b hb).1]
    exact ⟨.tup (.of (hS b hb).1.tup) (.cons (.str _) (.cons (.tup (.of (hS b hb).1.cols) (dp_ints _)) (.cons (dp_cap _) .nil))), sv_shaped (wd_strOk (hS b hb).2) _ _⟩
/-! ### uncapped -/
def uncE (ss : List SvE) (n : Str) (p : Addr) : List SvE := ss.map fun c => if c.name = n then { c with at_ := p, cap := none } else c
theorem uncE_names (ss : List SvE) (n : Str) (p : Addr) : (uncE ss n p).map (·.name) = ss.map (·.name) := by
  unfold uncE
  rw [List.map_map]
  refine List.map_congr_left fun c _ => ?_
  show (if c.name = n then _ else c).name = c.name
  split <;> rfl
theorem fillE_unc (ts : List (Str × Int)) (ks : List KeyE) (n : Str) (p : Addr) : ∀ ss : List SvE, (fillE ts ks (uncE ss n p)).Sublist (fillE ts ks ss)
  | [] => List.Sublist.refl _
  | c :: ss => by
    have ih := fillE_unc ts ks n p ss
    unfold fillE uncE at ih ⊢
    rw [List.map_cons]
    by_cases e : c.name = n
    · rw [if_pos e]
      have hw : whE ts ks { c with at_ := p, cap := none } = true := rfl
      rw [List.filter_cons_of_neg (by rw [hw]; decide)]
      by_cases h : whE ts ks c = true
      · rw [List.filter_cons_of_neg (by rw [h]; decide)]
        exact ih
      · rw [List.filter_cons_of_pos (by simp [h]), List.map_cons]
        exact ih.cons _
    · rw [if_neg e]
      by_cases h : whE ts ks c = true
      · rw [List.filter_cons_of_neg (by rw [h]; decide), List.filter_cons_of_neg (by rw [h]; decide)]
        exact ih
      · rw [List.filter_cons_of_pos (by simp [h]), List.filter_cons_of_pos (by simp [h]), List.map_cons, List.map_cons]
        exact ih.cons₂ _
theorem putK_map {ss : List SvE} {n : Str} (p : Addr) (h : n ∈ ss.map (·.name)) : putK (svK ss) (Sum.inr n) (V.ref p) = svK (uncE ss n p) := by
  unfold putK
  have ha : ((svK ss).any fun kv => decide (kv.1 = Sum.inr n)) = true := by
    obtain ⟨b, hb, e⟩ := List.mem_map.mp h
    exact List.any_eq_true.mpr ⟨_, List.mem_map.mpr ⟨b, hb, rfl⟩, decide_eq_true (by rw [e])⟩
  rw [if_pos ha]
  unfold svK uncE
  rw [List.map_map, List.map_map]
  refine List.map_congr_left fun c _ => ?_
  show (if (Sum.inr c.name : Key) = Sum.inr n then _ else _) = (fun b : SvE => ((Sum.inr b.name : Key), V.ref b.at_)) (if c.name = n then _ else c)
  by_cases e : c.name = n
  · rw [if_pos e, if_pos (by rw [e])]
  · rw [if_neg e, if_neg (fun z => e (Sum.inr.inj z))]
theorem putK_perm {κ : Type} [DecidableEq κ] {a b : List (κ × V)} (p : a.Perm b) (k : κ) (v : V) : (putK a k v).Perm (putK b k v) := by
  unfold putK
  have e : (a.any fun kv => decide (kv.1 = k)) = b.any fun kv => decide (kv.1 = k) := by
    apply Bool.eq_iff_iff.mpr
    rw [List.any_eq_true, List.any_eq_true]
    exact ⟨fun ⟨x, hx, h⟩ => ⟨x, p.mem_iff.mp hx, h⟩, fun ⟨x, hx, h⟩ => ⟨x, p.mem_iff.mpr hx, h⟩⟩
  rw [e]
  split
  · exact p.map _
  · exact p.append_right _
theorem name_uniq : ∀ {ss : List SvE} {b c : SvE}, (ss.map (·.name)).Nodup → b ∈ ss → c ∈ ss → b.name = c.name → b = c
  | x :: ss, b, c, nd, hb, hc, e => by
    rw [List.map_cons] at nd
    obtain ⟨n1, n2⟩ := List.nodup_cons.mp nd
    rcases List.mem_cons.mp hb with rfl | hb
    · rcases List.mem_cons.mp hc with rfl | hc
      · rfl
      · exact absurd (by rw [e]; exact List.mem_map.mpr ⟨_, hc, rfl⟩) n1
    · rcases List.mem_cons.mp hc with rfl | hc
      · exact absurd (by rw [← e]; exact List.mem_map.mpr ⟨_, ‹b ∈ ss›, rfl⟩) n1
      · exact name_uniq n2 ‹b ∈ ss› ‹c ∈ ss› e
section
variable {P : Program} {w : World} {K : PySem.W.Frag} {mg : Str → Option Value} {base : Heap} {a : Nat → Addr} {d : Nat → FuncData}
/-! ### == of two schemas -/
def schB (ts : List (Str × Int)) (ks : List KeyE) (ss : List SvE) (ts' : List (Str × Int)) (ks' : List KeyE) (ss' : List SvE) : Bool := eqP (tabP ts) (tabP ts') && (eqP (keyP ks) (keyP ks') && eqP (svP ss) (svP ss'))
theorem sv_toldW {H : Hp} {ts : List (Str × Int)} {ss : List SvE} {m : Nat} {wm : Int} (hT : Tabs ts m wm) (h : ∀ b ∈ ss, SvOk H ts b) : ∀ b ∈ ss, Told H b.at_ b.tab b.ga b.cols b.cap ∧ Wd b.tab := fun b hb => by
  obtain ⟨t, ⟨w, hw, _⟩, _⟩ := h b hb
  exact ⟨t, hT.nm.wd _ (List.mem_map.mpr ⟨_, hw, rfl⟩)⟩
def spSEq (C : Addr) : Sp := fun vs H Q _ => ∃ (p q : Addr) (ts : List (Str × Int)) (ks : List KeyE) (ss : List SvE) (m n : Nat) (ts' : List (Str × Int)) (ks' : List KeyE) (ss' : List SvE) (m' n' : Nat), vs = [.ref p, .ref q] ∧ SchAt C p H ts ks ss m n ∧ SchAt C q H ts' ks' ss' m' n' ∧ Q (.bl (schB ts ks ss ts' ks' ss')) H
theorem ok_seq (T : Txt K mg a d) : FnOk P w K mg base CX0 1 (a 5804) (d 5804) ["self", "other"] (spSEq (a 48)) := by
  refine T.F5804.ok sc_Schema___eq__ (fun vs H Q E h => ?_) (fun cdv A outer s H vs Q E hr h => ?_)
  · obtain ⟨p, q, ts, ks, ss, m, n, ts', ks', ss', m', n', rfl, _⟩ := h
    rfl
  · obtain ⟨p, q, ts, ks, ss, m, n, ts', ks', ss', m', n', rfl, ⟨dx, d1, d2, d3, O⟩, ⟨dy, e1, e2, e3, O'⟩, k⟩ := h
    refine ⟨_, (pss_one (ps_ret (pe_and (pe_callB (id := "isinstance")  (C8.call_isC T.ic_48) (by rfl) T.z_isinstance (by decide +kernel) (pa_cons (pv 1) (pa_cons (pe_glob (v := .ref (a 48)) (by rfl) T.cg_48 rfl) pa_nil))) (pe_and (pe_cmpR (op_eqT (hu_of65 hr)) (pe_fld (pv 0) rfl) (pe_fld (pv 1) rfl) (nomark _)) (pe_and (pe_cmpR (op_eqT (hu_of65 hr)) (pe_fld (pv 0) rfl) (pe_fld (pv 1) rfl) (nomark _)) (pe_one (pe_cmpR (op_eqT (hu_of65 hr)) (pe_fld (pv 0) rfl) (pe_fld (pv 1) rfl) (nomark _)))))))), ?_⟩
    refine ⟨_, rfl, q, dy, _, rfl, O'.ob, true, rfl, ?_⟩
    unfold schB at k
    refine ⟨_, rfl, p, _, dx, _, _, rfl, O.ob, T.cl_48, T.no_48__tables, flds_t _ _ _, _, rfl, q, _, dy, _, _, rfl, O'.ob, T.cl_48, T.no_48__tables, flds_t _ _ _, rEqT_of (ddat_tab O.tb) (ddat_tab O'.tb) (tabP_nd O.hT) (tabP_nd O'.hT) ⟨_, rfl, ?_⟩⟩
    show if eqP (tabP ts) (tabP ts') = true then _ else _
    cases h1 : eqP (tabP ts) (tabP ts') with
    | false =>
      rw [h1] at k
      exact k
    | true =>
      rw [h1, Bool.true_and] at k
      refine ⟨_, rfl, p, _, dx, _, _, rfl, O.ob, T.cl_48, T.no_48__keys, flds_k _ _ _, _, rfl, q, _, dy, _, _, rfl, O'.ob, T.cl_48, T.no_48__keys, flds_k _ _ _, rEqT_of (ddat_key O.ky O.hK) (ddat_key O'.ky O'.hK) (keyP_nd O.hK) (keyP_nd O'.hK) ⟨_, rfl, ?_⟩⟩
      show if eqP (keyP ks) (keyP ks') = true then _ else _
      cases h2 : eqP (keyP ks) (keyP ks') with
      | false =>
        rw [h2] at k
        exact k
      | true =>
        rw [h2, Bool.true_and] at k
        exact ⟨_, rfl, p, _, dx, _, _, rfl, O.ob, T.cl_48, T.no_48__services, flds_s _ _ _, _, rfl, q, _, dy, _, _, rfl, O'.ob, T.cl_48, T.no_48__services, flds_s _ _ _, rEqT_of (ddat_sv O.sv (sv_toldW O.hT O.hS.ok)) (ddat_sv O'.sv (sv_toldW O'.hT O'.hS.ok)) (svP_nd O.hS.nm) (svP_nd O'.hS.nm) k⟩
end
theorem schB_refl {H : Hp} {ts : List (Str × Int)} {ks : List KeyE} {ss : List SvE} {m n : Nat} (hT : Tabs ts m 4) (hK : Keys H ts ks) (hS : Svcs H ts ks ss n) : schB ts ks ss ts ks ss = true := by
  unfold schB
  rw [eqP_refl (tabP_nd hT) (fun p hp => ?_), eqP_refl (keyP_nd hK) (fun p hp => ?_), eqP_refl (svP_nd hS.nm) (fun p hp => ?_)]
  · rfl
  · obtain ⟨b, hb, rfl⟩ := List.mem_map.mp hp
    exact sv_shaped (wd_strOk (sv_toldW hT hS.ok b hb).2) _ _
  · obtain ⟨b, hb, rfl⟩ := List.mem_map.mp hp
    exact ints_tup_shaped _
  · obtain ⟨b, hb, rfl⟩ := List.mem_map.mp hp
    simp [SeqAt.shaped, PyData.canLay0, PyData.depth]
theorem mk_schema {C t k v : Addr} {H : Hp} {ts : List (Str × Int)} {ks : List KeyE} {ss : List SvE} {m n : Nat} {Q' : Hp → Prop} {E : XK} {x dx : Addr} (ht : DctAt H t (tabK ts)) (hk : DctAt H k (keyK ks)) (hv : DctAt H v (svK ss)) (hT : Tabs ts m 4) (hK : Keys H ts ks) (hS : Svcs H ts ks ss n) (m1 : 1 ≤ m) (m5 : m ≤ 5) (n1 : 1 ≤ n) (n8 : n ≤ 8)
    (fx : H x = none) (fdx : H dx = none) (ndx : dx ≠ x) (q : ∀ H', SchAt C x H' ts ks ss m n → Same H H' → Q' H') :
    spSInit C (.ref x :: ([.ref t, .ref k, .ref v] ++ [])) (upd (upd H dx (.own x)) x (.ins C dx [])) (fun u H2 => u = .non ∧ Q' H2) E := by
  have s1 := same_upd (o := .own x) fdx
  have f1 : upd H dx (.own x) x = none := by rw [upd_ne ndx.symm]; exact fx
  have s := s1.trans (same_upd (o := .ins C dx []) f1)
  exact ⟨x, dx, t, k, v, ts, ks, ss, m, n, rfl, upd_same, ht.same s, hk.same s, hv.same s, hT, hK.mono fun _ _ e => s _ _ e, hS.mono fun _ _ e => s _ _ e, m1, m5, n1, n8, fun Hz e1 e2 e3 Oz _ _ _ keep => ⟨rfl, q Hz ⟨dx, e1, e2, e3, Oz⟩ fun b u e => keep b u (ne_of_none e fx) (s _ _ e)⟩⟩
/-! ### things of any kind -/
def tupOf (H : Hp) : V → Option (List V)
  | .ref a => match H a with
    | some (.tup xs) => some xs
    | _ => none
  | _ => none
theorem tupOf_tup {H : Hp} {a : Addr} {xs : List V} (e : H a = some (.tup xs)) : tupOf H (.ref a) = some xs := by
  show (match H a with | some (.tup xs) => some xs | _ => none) = _
  rw [e]
theorem tupOf_lst {H : Hp} {a : Addr} {xs : List V} (e : H a = some (.lst xs)) : tupOf H (.ref a) = none := by
  show (match H a with | some (.tup xs) => some xs | _ => none) = _
  rw [e]
def goCols (w : Int) : Int → List V → Bool
  | _, [] => true
  | l, .int i :: xs => decide (l ≤ i ∧ i < w) && goCols w (i + 1) xs
  | _, _ :: _ => false
def colsB (H : Hp) (v : V) (w : Int) : Bool := match tupOf H v with
  | some xs => goCols w 0 xs
  | none => false
def countB (m : Int) : V → Bool
  | .int i => decide (1 ≤ i ∧ i ≤ m)
  | _ => false
def keyB (H : Hp) (v : V) (w : Int) : Bool := match tupOf H v with
  | some xs => goCols w 0 xs && decide (0 < (xs.length : Int) ∧ (xs.length : Int) < w)
  | none => false
def widthOf (kvs : List (Key × V)) (n : Str) : Option Int := match valV kvs (Sum.inr n) with
  | some (.int w) => some w
  | _ => none
def svcL (H : Hp) (kvs : List (Key × V)) : List V → Bool
  | [x, g, c] => (match x with
    | .str n => (match widthOf kvs n with
      | some w => colsB H g w
      | none => false)
    | _ => false) && (decide (c = .non) || countB 4 c)
  | _ => false
def svcB (H : Hp) (kvs : List (Key × V)) (v : V) : Bool := match tupOf H v with
  | some xs => svcL H kvs xs
  | none => false
theorem svcL_len {H : Hp} {kvs : List (Key × V)} : ∀ {xs : List V}, xs.length ≠ 3 → svcL H kvs xs = false
  | [], _ => rfl
  | [_], _ => rfl
  | [_, _], _ => rfl
  | [_, _, _], h => absurd rfl h
  | _ :: _ :: _ :: _ :: _, _ => rfl
/-- what was a tuple or a list is one still -/
structure Kp (H H' : Hp) : Prop where
  tup : ∀ a xs, H a = some (.tup xs) → H' a = some (.tup xs)
  lst : ∀ a xs, H a = some (.lst xs) → ∃ ys, H' a = some (.lst ys)
theorem Kp.refl (H : Hp) : Kp H H := ⟨fun _ _ e => e, fun _ xs e => ⟨xs, e⟩⟩
theorem Kp.trans {H H1 H2 : Hp} (a : Kp H H1) (b : Kp H1 H2) : Kp H H2 := ⟨fun x xs e => b.tup _ _ (a.tup x xs e), fun x xs e => by
  obtain ⟨ys, e1⟩ := a.lst x xs e
  exact b.lst x ys e1⟩
theorem Kp.same {H H' : Hp} (s : Same H H') : Kp H H' := ⟨fun _ _ e => s _ _ e, fun _ xs e => ⟨xs, s _ _ e⟩⟩
theorem Kp.chg {H H' : Hp} {p : Addr} (hP : PoolAt H p) (c : Chg p H H') : Kp H H' := ⟨chg_tup hP c, fun a xs e => by
  by_cases n : a = p
  · subst n
    obtain ⟨p0, p1, p2, p3, r, e', _⟩ := c.1
    exact ⟨_, e'⟩
  · exact ⟨xs, c.at n e⟩⟩
theorem Kp.dict {H : Hp} {t : Addr} {kvs : List (Key × V)} {o : HO} (e : H t = some (.dK kvs)) : Kp H (upd H t o) := ⟨upd_tup e (by intro _ z; cases z), fun a xs e' => ⟨xs, by
  rw [upd_ne (ne_of e' e (by intro z; cases z))]
  exact e'⟩⟩
theorem Thg.kp {H H' : Hp} {v : V} (h : Thg H v) (k : Kp H H') : Thg H' v := by
  cases h with
  | int i => exact .int i
  | bl b => exact .bl b
  | non => exact .non
  | str s h hc => exact .str s h hc
  | lst e =>
    obtain ⟨ys, e'⟩ := k.lst _ _ e
    exact .lst e'
  | tup e => exact .tup (k.tup _ _ e)
theorem tupOf_kp {H H' : Hp} {v : V} (h : Thg H v) (k : Kp H H') : tupOf H' v = tupOf H v := by
  cases h with
  | int i => rfl
  | bl b => rfl
  | non => rfl
  | str s h hc => rfl
  | lst e =>
    obtain ⟨ys, e'⟩ := k.lst _ _ e
    rw [tupOf_lst e, tupOf_lst e']
  | tup e => rw [tupOf_tup e, tupOf_tup (k.tup _ _ e)]
/-- a thing; if it is a tuple, its parts are things -/
structure Th1 (H : Hp) (v : V) : Prop where
  th : Thg H v
  it : ∀ xs, tupOf H v = some xs → xs.length ≤ 100 ∧ ∀ x ∈ xs, Thg H x
structure Th2 (H : Hp) (v : V) : Prop where
  th : Thg H v
  it : ∀ xs, tupOf H v = some xs → xs.length ≤ 100 ∧ ∀ x ∈ xs, Th1 H x
theorem Th1.kp {H H' : Hp} {v : V} (h : Th1 H v) (k : Kp H H') : Th1 H' v := ⟨h.th.kp k, fun xs e => by
  rw [tupOf_kp h.th k] at e
  exact ⟨(h.it xs e).1, fun x hx => ((h.it xs e).2 x hx).kp k⟩⟩
theorem Th2.kp {H H' : Hp} {v : V} (h : Th2 H v) (k : Kp H H') : Th2 H' v := ⟨h.th.kp k, fun xs e => by
  rw [tupOf_kp h.th k] at e
  exact ⟨(h.it xs e).1, fun x hx => ((h.it xs e).2 x hx).kp k⟩⟩
theorem Th1.flat {H : Hp} {v : V} (h : Thg H v) (n : tupOf H v = none) : Th1 H v := ⟨h, fun xs e => by rw [n] at e; cases e⟩
theorem Th2.flat {H : Hp} {v : V} (h : Thg H v) (n : tupOf H v = none) : Th2 H v := ⟨h, fun xs e => by rw [n] at e; cases e⟩
theorem Th1.tup {H : Hp} {a : Addr} {xs : List V} (e : H a = some (.tup xs)) (l : xs.length ≤ 100) (h : ∀ x ∈ xs, Thg H x) : Th1 H (.ref a) := ⟨.tup e, fun ys e' => by
  rw [tupOf_tup e] at e'
  cases e'
  exact ⟨l, h⟩⟩
theorem Th2.tup {H : Hp} {a : Addr} {xs : List V} (e : H a = some (.tup xs)) (l : xs.length ≤ 100) (h : ∀ x ∈ xs, Th1 H x) : Th2 H (.ref a) := ⟨.tup e, fun ys e' => by
  rw [tupOf_tup e] at e'
  cases e'
  exact ⟨l, h⟩⟩
theorem Th1.up {H : Hp} {v : V} (h : Th1 H v) (hx : ∀ xs, tupOf H v = some xs → ∀ x ∈ xs, tupOf H x = none) : Th2 H v := ⟨h.th, fun xs e => ⟨(h.it xs e).1, fun x hm => .flat ((h.it xs e).2 x hm) (hx xs e x hm)⟩⟩
theorem colsB_kp {H H' : Hp} {v : V} {w : Int} (h : Thg H v) (k : Kp H H') : colsB H' v w = colsB H v w := by
  unfold colsB
  rw [tupOf_kp h k]
theorem keyB_kp {H H' : Hp} {v : V} {w : Int} (h : Thg H v) (k : Kp H H') : keyB H' v w = keyB H v w := by
  unfold keyB
  rw [tupOf_kp h k]
/-! ### a dict of names -/
def kvK (kv : List (Str × V)) : List (Key × V) := kv.map fun p => (Sum.inr p.1, p.2)
theorem keys_kv (kv : List (Str × V)) : (kvK kv).map (·.1) = (kv.map (·.1)).map Sum.inr := by
  unfold kvK
  rw [List.map_map, List.map_map]
  rfl
theorem kv_nd {kv : List (Str × V)} (h : (kv.map (·.1)).Nodup) : ((kvK kv).map (·.1)).Nodup := by
  rw [keys_kv]
  exact inr_nd h
def valN (kv : List (Str × V)) (n : Str) : V := (valV (kvK kv) (Sum.inr n)).getD .non
theorem valN_mem {kv : List (Str × V)} {n : Str} (h : n ∈ kv.map (·.1)) (nd : (kv.map (·.1)).Nodup) : valV (kvK kv) (Sum.inr n) = some (valN kv n) ∧ (n, valN kv n) ∈ kv := by
  obtain ⟨p, hp, rfl⟩ := List.mem_map.mp h
  have e : valV (kvK kv) (Sum.inr p.1) = some p.2 := val_nodup (kvs := kvK kv) (kv_nd nd) (Sum.inr p.1, p.2) (List.mem_map.mpr ⟨p, hp, rfl⟩)
  have e2 : valN kv p.1 = p.2 := by
    unfold valN
    rw [e]
    rfl
  rw [e2]
  exact ⟨e, hp⟩
/-- names that are texts of small signs -/
def NmOk (s : Str) : Prop := s.length ≤ 100 ∧ Low s
theorem NmOk.thg {H : Hp} {s : Str} (h : NmOk s) : Thg H (.str s) := .str s (by have := h.1; omega) fun c hc => h.2 c hc
structure Dn (H : Hp) (t : Addr) (kv : List (Str × V)) : Prop where
  at_ : H t = some (.dK (kvK kv))
  nd : (kv.map (·.1)).Nodup
  nm : ∀ p ∈ kv, NmOk p.1
  len : kv.length < 64
theorem Dn.get {H : Hp} {t : Addr} {kv : List (Str × V)} (h : Dn H t kv) {n : Str} (hn : n ∈ kv.map (·.1)) : DGet H t (.str n) (some (valN kv n)) := by
  have g := DGet.k (k := Sum.inr n) h.at_
  rw [(valN_mem hn h.nd).1] at g
  exact g
noncomputable def sortN (ns : List Str) : List Str := Classical.epsilon fun ys => ys.Perm ns ∧ PyProof.Rows.sortedS ys = true
theorem sortN_eq {ns ys : List Str} (p : ys.Perm ns) (s : PyProof.Rows.sortedS ys = true) : sortN ns = ys := by
  have h := Classical.epsilon_spec (p := fun ys : List Str => ys.Perm ns ∧ PyProof.Rows.sortedS ys = true) ⟨ys, p, s⟩
  exact sorted_uniq (h.1.trans p.symm) h.2 s
theorem find_at {α : Type} {p : α → Bool} {x : α} : ∀ {ys : List α} {i : Nat}, (∀ y ∈ ys.take i, p y = false) → ys[i]? = some x → p x = true → ys.find? p = some x
  | [], _, _, h, _ => by simp at h
  | y :: ys, 0, _, h, e => by
    cases h
    exact List.find?_cons_of_pos e
  | y :: ys, i + 1, h, hx, e => by
    rw [List.find?_cons_of_neg (by rw [h y (by simp)]; decide)]
    exact find_at (i := i) (fun z hz => h z (by simp [hz])) (by simpa using hx) e
theorem find_no {α : Type} {p : α → Bool} {ys : List α} (h : ∀ y ∈ ys, p y = false) : ys.find? p = none := List.find?_eq_none.mpr fun y hy => by rw [h y hy]; decide
theorem take_snoc {α : Type} {ys : List α} {i : Nat} {x : α} (h : ys[i]? = some x) : ys.take (i + 1) = ys.take i ++ [x] := by
  rw [List.take_add_one, h]
  rfl
/-- how an error of two fields goes out -/
def Er2 (C : Addr) (f g : Str) (u v : V) (H : Hp) (E : XK) : Prop := ∀ dx H', H dx = none → H' dx = some (.xd [(g, v), (f, u)]) → Same H H' → E (.ref C) (some dx) H'
def spI2 (C : Addr) (f g : Str) : Sp := fun vs H Q _ => ∃ (x : Addr) (u v : V), vs = [.ref x, u, v] ∧ H x = some (exo x C none) ∧ ∀ dx H', H dx = none → dx ≠ x → H' x = some (exo x C (some dx)) → H' dx = some (exd dx [(g, v), (f, u)]) → (∀ b o, b ≠ x → b ≠ dx → H b = some o → H' b = some o) → Q .non H'
theorem er2_raise {C : Addr} {f g : Str} {u v : V} {H : Hp} {E : XK} (k : Er2 C f g u v H E) : ([u, v] : List V).length ≤ 1000 ∧ ∀ x, H x = none → spI2 C f g (.ref x :: ([u, v] ++ [])) (upd H x (exo x C none))
    (fun z H2 => z = .non ∧ ∃ (dd : Addr) (fs : List (Str × V)), H2 x = some (exo x C (some dd)) ∧ H2 dd = some (exd dd fs) ∧ H dd = none ∧ E (.ref C) (some dd) (upd (del H2 x) dd (.xd fs))) (fun _ _ _ => False) := by
  refine ⟨by show 2 ≤ 1000; decide, fun x hx => ⟨x, u, v, rfl, upd_same, fun dx H' hdx ne e1 e2 keep => ⟨rfl, dx, _, e1, e2, ?_, ?_⟩⟩⟩
  · rw [upd_ne ne] at hdx
    exact hdx
  · rw [upd_ne ne] at hdx
    refine k dx _ hdx upd_same fun b o e => ?_
    have nb : b ≠ x := ne_of_none e hx
    have nd : b ≠ dx := ne_of_none e hdx
    rw [upd_ne nd, del_ne nb]
    exact keep b o nb nd (by rw [upd_ne nb]; exact e)
theorem Thg.tyT {K : PySem.W.Frag} {H : Hp} {v : V} (h : Thg H v) : ∃ n, TyX K H v (.type n) ∧ kitB n "tuple" = some (tupOf H v).isSome := by
  cases h with
  | int i => exact ⟨_, .base (.int _), show kitB "int" "tuple" = some false by decide +kernel⟩
  | bl b => exact ⟨_, .base (.bl _), show kitB "bool" "tuple" = some false by decide +kernel⟩
  | non => exact ⟨_, .base .non, show kitB "NoneType" "tuple" = some false by decide +kernel⟩
  | str s => exact ⟨_, .base (.str _), show kitB "str" "tuple" = some false by decide +kernel⟩
  | lst e => exact ⟨_, .base (.lst e), by rw [tupOf_lst e]; exact show kitB "list" "tuple" = some false by decide +kernel⟩
  | tup e => exact ⟨_, .base (.tup e), by rw [tupOf_tup e]; exact show kitB "tuple" "tuple" = some true by decide +kernel⟩
theorem tupOf_some {H : Hp} {v : V} {xs : List V} (h : tupOf H v = some xs) : ∃ a, v = .ref a ∧ H a = some (.tup xs) := by
  cases v with
  | ref a =>
    refine ⟨a, rfl, ?_⟩
    have h' : (match H a with | some (.tup xs) => some xs | _ => none) = some xs := h
    cases e : H a with
    | none => rw [e] at h'; cases h'
    | some o =>
      rw [e] at h'
      cases o <;> first | (cases h'; rfl) | cases h'
  | _ => cases h
/-! ### things as data: where they stand, and what they tell; no list or tuple of theirs stands at a place of C -/
theorem paired_imp {α β : Type} {F G : α → β → Prop} (h : ∀ a b, F a b → G a b) : ∀ {xs : List α} {ys : List β}, Paired F xs ys → Paired G xs ys
  | _, _, .nil => .nil
  | _, _, .cons r t => .cons (h _ _ r) (paired_imp h t)
theorem paired_app {α β : Type} {F : α → β → Prop} : ∀ {xs : List α} {ys : List β} {us : List α} {ws : List β}, Paired F xs ys → Paired F us ws → Paired F (xs ++ us) (ys ++ ws)
  | _, _, _, _, .nil, g => g
  | _, _, _, _, .cons r t, g => .cons r (paired_app t g)
theorem paired_take {α β : Type} {F : α → β → Prop} : ∀ {xs : List α} {ys : List β} (n : Nat), Paired F xs ys → Paired F (xs.take n) (ys.take n)
  | _, _, 0, _ => .nil
  | _, _, _ + 1, .nil => .nil
  | _, _, n + 1, .cons r t => .cons r (paired_take n t)
theorem paired_drop {α β : Type} {F : α → β → Prop} : ∀ {xs : List α} {ys : List β} (n : Nat), Paired F xs ys → Paired F (xs.drop n) (ys.drop n)
  | _, _, 0, h => h
  | _, _, _ + 1, .nil => .nil
  | _, _, n + 1, .cons r t => paired_drop n t
theorem paired_at {α β : Type} {F : α → β → Prop} : ∀ {xs : List α} {ys : List β} {i : Nat} {x : α}, Paired F xs ys → xs[i]? = some x → ∃ y, ys[i]? = some y ∧ F x y
  | _, _, 0, _, .cons r t, h => by
    cases h
    exact ⟨_, rfl, r⟩
  | _, _, i + 1, _, .cons r t, h => paired_at (i := i) t h
theorem paired_any {α β : Type} {F : α → β → Prop} : ∀ {xs : List α} {ys : List β} {x : α}, Paired F xs ys → x ∈ xs → ∃ y ∈ ys, F x y
  | _, _, _, .cons r t, h => by
    rcases List.mem_cons.mp h with rfl | h
    · exact ⟨_, List.mem_cons_self, r⟩
    · obtain ⟨y, hy, f⟩ := paired_any t h
      exact ⟨y, List.mem_cons_of_mem _ hy, f⟩
inductive Sc : V → PyData → Prop
  | non : Sc .non .none
  | bl (b : Bool) : Sc (.bl b) (.bool b)
  | int (i : Int) : Sc (.int i) (.int i)
  | str (s : Str) (h : s.length ≤ 1000) (hc : ∀ c ∈ s.cps.toList, c < 128) : Sc (.str s) (.str s)
def DA (C : Addr → Prop) (H : Hp) : Nat → V → PyData → Prop
  | 0, v, d => Sc v d
  | n + 1, v, d => Sc v d ∨ (∃ a xs ds, v = .ref a ∧ d = .tuple ds ∧ ¬ C a ∧ H a = some (.tup xs) ∧ xs.length ≤ 5000 ∧ Paired (DA C H n) xs ds) ∨ (∃ a xs ds, v = .ref a ∧ d = .list ds ∧ ¬ C a ∧ H a = some (.lst xs) ∧ xs.length ≤ 5000 ∧ Paired (DA C H n) xs ds)
section
variable {C C' : Addr → Prop} {H H' : Hp} {n m : Nat} {v : V} {d : PyData}
theorem Sc.da (h : Sc v d) : DA C H n v d := by
  cases n with
  | zero => exact h
  | succ n => exact .inl h
theorem DA.tup {a : Addr} {xs : List V} {ds : List PyData} (hc : ¬ C a) (e : H a = some (.tup xs)) (l : xs.length ≤ 5000) (p : Paired (DA C H n) xs ds) : DA C H (n + 1) (.ref a) (.tuple ds) := .inr (.inl ⟨a, xs, ds, rfl, rfl, hc, e, l, p⟩)
theorem DA.lst {a : Addr} {xs : List V} {ds : List PyData} (hc : ¬ C a) (e : H a = some (.lst xs)) (l : xs.length ≤ 5000) (p : Paired (DA C H n) xs ds) : DA C H (n + 1) (.ref a) (.list ds) := .inr (.inr ⟨a, xs, ds, rfl, rfl, hc, e, l, p⟩)
theorem DA.keep (k : ∀ b o, ¬ C b → H b = some o → H' b = some o) : ∀ {n : Nat} {v : V} {d : PyData}, DA C H n v d → DA C H' n v d
  | 0, _, _, h => h
  | n + 1, _, _, h => by
    rcases h with h | ⟨a, xs, ds, rfl, rfl, hc, e, l, p⟩ | ⟨a, xs, ds, rfl, rfl, hc, e, l, p⟩
    · exact .inl h
    · exact .tup hc (k _ _ hc e) l (paired_imp (fun _ _ => DA.keep k) p)
    · exact .lst hc (k _ _ hc e) l (paired_imp (fun _ _ => DA.keep k) p)
theorem DA.keep2 (k : ∀ b o, ¬ C b → (∃ xs, o = HO.tup xs ∨ o = HO.lst xs) → H b = some o → H' b = some o) : ∀ {n : Nat} {v : V} {d : PyData}, DA C H n v d → DA C H' n v d
  | 0, _, _, h => h
  | n + 1, _, _, h => by
    rcases h with h | ⟨a, xs, ds, rfl, rfl, hc, e, l, p⟩ | ⟨a, xs, ds, rfl, rfl, hc, e, l, p⟩
    · exact .inl h
    · exact .tup hc (k _ _ hc ⟨_, .inl rfl⟩ e) l (paired_imp (fun _ _ => DA.keep2 k) p)
    · exact .lst hc (k _ _ hc ⟨_, .inr rfl⟩ e) l (paired_imp (fun _ _ => DA.keep2 k) p)
theorem DA.same (h : DA C H n v d) (s : Same H H') : DA C H' n v d := h.keep fun _ _ _ e => s _ _ e
theorem DA.weak (k : ∀ b, C' b → C b) : ∀ {n : Nat} {v : V} {d : PyData}, DA C H n v d → DA C' H n v d
  | 0, _, _, h => h
  | n + 1, _, _, h => by
    rcases h with h | ⟨a, xs, ds, rfl, rfl, hc, e, l, p⟩ | ⟨a, xs, ds, rfl, rfl, hc, e, l, p⟩
    · exact .inl h
    · exact .tup (fun x => hc (k _ x)) e l (paired_imp (fun _ _ => DA.weak k) p)
    · exact .lst (fun x => hc (k _ x)) e l (paired_imp (fun _ _ => DA.weak k) p)
theorem DA.fresh {D : Addr} (hD : H D = none) : ∀ {n : Nat} {v : V} {d : PyData}, DA C H n v d → DA (fun x => C x ∨ x = D) H n v d
  | 0, _, _, h => h
  | n + 1, _, _, h => by
    have ne : ∀ {a : Addr} {o : HO}, ¬ C a → H a = some o → ¬ (C a ∨ a = D) := fun hc e x => x.elim hc fun e' => by rw [e', hD] at e; cases e
    rcases h with h | ⟨a, xs, ds, rfl, rfl, hc, e, l, p⟩ | ⟨a, xs, ds, rfl, rfl, hc, e, l, p⟩
    · exact .inl h
    · exact .tup (ne hc e) e l (paired_imp (fun _ _ => DA.fresh hD) p)
    · exact .lst (ne hc e) e l (paired_imp (fun _ _ => DA.fresh hD) p)
theorem DA.up1 : ∀ {n : Nat} {v : V} {d : PyData}, DA C H n v d → DA C H (n + 1) v d
  | 0, _, _, h => .inl h
  | n + 1, _, _, h => by
    rcases h with h | ⟨a, xs, ds, rfl, rfl, hc, e, l, p⟩ | ⟨a, xs, ds, rfl, rfl, hc, e, l, p⟩
    · exact .inl h
    · exact .tup hc e l (paired_imp (fun _ _ => DA.up1) p)
    · exact .lst hc e l (paired_imp (fun _ _ => DA.up1) p)
theorem DA.up (h : DA C H n v d) (l : n ≤ m) : DA C H m v d := by
  induction l with
  | refl => exact h
  | step _ ih => exact ih.up1
/-- a thing told as a tuple is one -/
theorem DA.asTup {ds : List PyData} (h : DA C H n v (.tuple ds)) : ∃ a xs k, n = k + 1 ∧ v = .ref a ∧ ¬ C a ∧ H a = some (.tup xs) ∧ xs.length ≤ 5000 ∧ Paired (DA C H k) xs ds := by
  cases n with
  | zero => cases h
  | succ n =>
    rcases h with h | ⟨a, xs, ds, rfl, e', hc, e, l, p⟩ | ⟨a, xs, ds, rfl, e', hc, e, l, p⟩
    · cases h
    · cases e'
      exact ⟨a, xs, n, rfl, rfl, hc, e, l, p⟩
    · cases e'
theorem DA.asLst {ds : List PyData} (h : DA C H n v (.list ds)) : ∃ a xs k, n = k + 1 ∧ v = .ref a ∧ ¬ C a ∧ H a = some (.lst xs) ∧ xs.length ≤ 5000 ∧ Paired (DA C H k) xs ds := by
  cases n with
  | zero => cases h
  | succ n =>
    rcases h with h | ⟨a, xs, ds, rfl, e', hc, e, l, p⟩ | ⟨a, xs, ds, rfl, e', hc, e, l, p⟩
    · cases h
    · cases e'
    · cases e'
      exact ⟨a, xs, n, rfl, rfl, hc, e, l, p⟩
theorem DA.asInt {i : Int} (h : DA C H n v (.int i)) : v = .int i := by
  cases n with
  | zero => cases h; rfl
  | succ n =>
    rcases h with h | ⟨a, xs, ds, rfl, e', _⟩ | ⟨a, xs, ds, rfl, e', _⟩
    · cases h; rfl
    · cases e'
    · cases e'
theorem DA.asStr {s : Str} (h : DA C H n v (.str s)) : v = .str s ∧ s.length ≤ 1000 ∧ ∀ c ∈ s.cps.toList, c < 128 := by
  cases n with
  | zero => cases h with | str _ h hc => exact ⟨rfl, h, hc⟩
  | succ n =>
    rcases h with h | ⟨a, xs, ds, rfl, e', _⟩ | ⟨a, xs, ds, rfl, e', _⟩
    · cases h with | str _ h hc => exact ⟨rfl, h, hc⟩
    · cases e'
    · cases e'
theorem dpall_of {K : PySem.W.Frag} {F : V → PyData → Prop} (k : ∀ v d, F v d → Dp K H v d) : ∀ {xs : List V} {ds : List PyData}, Paired F xs ds → DpAll K H xs ds
  | _, _, .nil => .nil
  | _, _, .cons r t => .cons (k _ _ r) (dpall_of k t)
theorem Sc.dp {K : PySem.W.Frag} (h : Sc v d) : Dp K H v d := by
  cases h with
  | non => exact .non
  | bl b => exact .bl b
  | int i => exact .int i
  | str s _ _ => exact .str s
theorem DA.dp {K : PySem.W.Frag} : ∀ {n : Nat} {v : V} {d : PyData}, DA C H n v d → Dp K H v d
  | 0, _, _, h => Sc.dp h
  | n + 1, _, _, h => by
    rcases h with h | ⟨a, xs, ds, rfl, rfl, hc, e, l, p⟩ | ⟨a, xs, ds, rfl, rfl, hc, e, l, p⟩
    · exact h.dp
    · exact .tup (.of e) (dpall_of (fun _ _ => DA.dp) p)
    · exact .lst (.of e) (dpall_of (fun _ _ => DA.dp) p)
theorem lays_of {F : V → PyData → Prop} {n : Nat} (k : ∀ v d, F v d → d.canLay0 = true ∧ d.depth ≤ n) : ∀ {xs : List V} {ds : List PyData}, Paired F xs ds → PyData.canLayAll0 ds = true ∧ PyData.depthAll ds ≤ n
  | _, _, .nil => ⟨rfl, Nat.zero_le _⟩
  | _, _, .cons r t => by
    obtain ⟨h1, h2⟩ := k _ _ r
    obtain ⟨h3, h4⟩ := lays_of k t
    exact ⟨by simp only [PyData.canLayAll0, h1, h3, Bool.and_self], by simp only [PyData.depthAll]; omega⟩
theorem Sc.lay (h : Sc v d) : d.canLay0 = true ∧ d.depth = 0 := by
  cases h with
  | non => exact ⟨rfl, rfl⟩
  | bl b => exact ⟨rfl, rfl⟩
  | int i => exact ⟨rfl, rfl⟩
  | str s _ hc => exact ⟨by simp only [PyData.canLay0, low_ok hc], rfl⟩
theorem DA.lay : ∀ {n : Nat} {v : V} {d : PyData}, DA C H n v d → d.canLay0 = true ∧ d.depth ≤ n
  | 0, _, _, h => ⟨(Sc.lay h).1, by rw [(Sc.lay h).2]; exact Nat.le_refl _⟩
  | n + 1, _, _, h => by
    rcases h with h | ⟨a, xs, ds, rfl, rfl, hc, e, l, p⟩ | ⟨a, xs, ds, rfl, rfl, hc, e, l, p⟩
    · exact ⟨h.lay.1, by rw [h.lay.2]; exact Nat.zero_le _⟩
    · obtain ⟨h1, h2⟩ := lays_of (fun _ _ => DA.lay) p
      exact ⟨by simp only [PyData.canLay0, h1], by simp only [PyData.depth]; omega⟩
    · obtain ⟨h1, h2⟩ := lays_of (fun _ _ => DA.lay) p
      exact ⟨by simp only [PyData.canLay0, h1], by simp only [PyData.depth]; omega⟩
theorem DA.shaped (h : DA C H n v d) (l : n ≤ 60) : SeqAt.shaped d = true := by
  unfold SeqAt.shaped
  rw [h.lay.1, Bool.true_and]
  exact decide_eq_true (by have := h.lay.2; omega)
theorem shaped_list {F : V → PyData → Prop} {xs : List V} {ds : List PyData} (p : Paired F xs ds) (k : ∀ v d, F v d → d.canLay0 = true ∧ d.depth ≤ 60) : SeqAt.shaped (.list ds) = true := by
  obtain ⟨h1, h2⟩ := lays_of k p
  unfold SeqAt.shaped
  simp only [PyData.canLay0, h1, Bool.true_and, PyData.depth]
  exact decide_eq_true (by omega)
theorem DA.refl (h : DA C H n v d) : PyData.eqv d d = true := PySem.SeqAt.eqv_refl _ h.lay.1
def isTup : PyData → Bool
  | .tuple _ => true
  | _ => false
def isLst : PyData → Bool
  | .list _ => true
  | _ => false
def isStrD : PyData → Bool
  | .str _ => true
  | _ => false
def isBoolD : PyData → Bool
  | .bool _ => true
  | _ => false
def isIntD : PyData → Bool
  | .int _ => true
  | .bool _ => true
  | _ => false
theorem DA.thg (h : DA C H n v d) : Thg H v := by
  cases n with
  | zero =>
    cases h with
    | non => exact .non
    | bl b => exact .bl b
    | int i => exact .int i
    | str s h hc => exact .str s h hc
  | succ n =>
    rcases h with h | ⟨a, xs, ds, rfl, rfl, hc, e, l, p⟩ | ⟨a, xs, ds, rfl, rfl, hc, e, l, p⟩
    · cases h with
      | non => exact .non
      | bl b => exact .bl b
      | int i => exact .int i
      | str s h hc => exact .str s h hc
    · exact .tup e
    · exact .lst e
theorem DA.ty {K : PySem.W.Frag} (h : DA C H n v d) : ∃ nm, TyX K H v (.type nm) ∧ kitB nm "tuple" = some (isTup d) ∧ kitB nm "list" = some (isLst d) ∧ kitB nm "str" = some (isStrD d) ∧ kitB nm "int" = some (isIntD d) ∧ kitB nm "bool" = some (isBoolD d) := by
  have sc : Sc v d → ∃ nm, TyX K H v (.type nm) ∧ kitB nm "tuple" = some (isTup d) ∧ kitB nm "list" = some (isLst d) ∧ kitB nm "str" = some (isStrD d) ∧ kitB nm "int" = some (isIntD d) ∧ kitB nm "bool" = some (isBoolD d) := fun h => by
    cases h with
    | non => exact ⟨"NoneType", .base .non, by decide +kernel, by decide +kernel, by decide +kernel, by decide +kernel, by decide +kernel⟩
    | bl b => exact ⟨"bool", .base (.bl _), by show _ = some false; decide +kernel, by show _ = some false; decide +kernel, by show _ = some false; decide +kernel, by show _ = some true; decide +kernel, by show _ = some true; decide +kernel⟩
    | int i => exact ⟨"int", .base (.int _), by show _ = some false; decide +kernel, by show _ = some false; decide +kernel, by show _ = some false; decide +kernel, by show _ = some true; decide +kernel, by show _ = some false; decide +kernel⟩
    | str s _ _ => exact ⟨"str", .base (.str _), by show _ = some false; decide +kernel, by show _ = some false; decide +kernel, by show _ = some true; decide +kernel, by show _ = some false; decide +kernel, by show _ = some false; decide +kernel⟩
  cases n with
  | zero => exact sc h
  | succ n =>
    rcases h with h | ⟨a, xs, ds, rfl, rfl, hc, e, l, p⟩ | ⟨a, xs, ds, rfl, rfl, hc, e, l, p⟩
    · exact sc h
    · exact ⟨"tuple", .base (.tup e), by show _ = some true; decide +kernel, by show _ = some false; decide +kernel, by show _ = some false; decide +kernel, by show _ = some false; decide +kernel, by show _ = some false; decide +kernel⟩
    · exact ⟨"list", .base (.lst e), by show _ = some false; decide +kernel, by show _ = some true; decide +kernel, by show _ = some false; decide +kernel, by show _ = some false; decide +kernel, by show _ = some false; decide +kernel⟩
/-- values, variables, terms, as data -/
def valD : PyData → Bool
  | .int i => decide (-999999999999999999999999999999 ≤ i ∧ i ≤ 999999999999999999999999999999)
  | .str s => wordB s
  | _ => false
def varD : PyData → Bool
  | .tuple [.int i] => decide (0 ≤ i ∧ i ≤ 999999999999999999999999999999)
  | _ => false
def termD (d : PyData) : Bool := valD d || varD d
theorem DA.val (h : DA C H n v d) : valV' v = valD d := by
  have sc : Sc v d → valV' v = valD d := fun h => by cases h <;> rfl
  cases n with
  | zero => exact sc h
  | succ n =>
    rcases h with h | ⟨a, xs, ds, rfl, rfl, _⟩ | ⟨a, xs, ds, rfl, rfl, _⟩
    · exact sc h
    · rfl
    · rfl
theorem varD_len : ∀ {ds : List PyData}, ds.length ≠ 1 → varD (.tuple ds) = false
  | [], _ => rfl
  | [_], h => absurd rfl h
  | x :: y :: r, _ => by cases x <;> rfl
/-- the variables of some terms -/
def varI : PyData → Option Int
  | .tuple [.int i] => some i
  | _ => none
theorem varI_mem {ds : List PyData} {i : Int} : i ∈ ds.filterMap varI ↔ .tuple [.int i] ∈ ds := by
  rw [List.mem_filterMap]
  constructor
  · rintro ⟨d, hd, e⟩
    unfold varI at e
    split at e
    · cases e
      exact hd
    · cases e
  · exact fun h => ⟨_, h, rfl⟩
theorem term_tup {ds : List PyData} (h : termD (.tuple ds) = true) : ∃ i, ds = [.int i] := by
  have h : varD (.tuple ds) = true := h
  unfold varD at h
  split at h
  · rename_i e
    cases e
    exact ⟨_, rfl⟩
  · cases h
def plainD (d : PyData) : Bool := isIntD d && !isBoolD d
theorem DA.plain (h : DA C H n v d) : plainV v = plainD d := by
  have sc : Sc v d → plainV v = plainD d := fun h => by cases h <;> rfl
  cases n with
  | zero => exact sc h
  | succ n =>
    rcases h with h | ⟨a, xs, ds, rfl, rfl, _⟩ | ⟨a, xs, ds, rfl, rfl, _⟩
    · exact sc h
    · rfl
    · rfl
end
/-! ### what a part lacks -/
def atomD : PyData → Bool
  | .tuple [_, .tuple _] => true
  | _ => false
theorem atomD_len : ∀ {ds : List PyData}, ds.length ≠ 2 → atomD (.tuple ds) = false
  | [], _ => rfl
  | [_], _ => rfl
  | [_, _], h => absurd rfl h
  | x :: y :: z :: r, _ => by cases y <;> rfl
def formD : PyData → Bool
  | .tuple [.tuple _, .list as] => decide (as.length ≤ 5) && as.all atomD
  | _ => false
theorem formD_len : ∀ {ds : List PyData}, ds.length ≠ 2 → formD (.tuple ds) = false
  | [], _ => rfl
  | [x], _ => by cases x <;> rfl
  | [_, _], h => absurd rfl h
  | x :: y :: z :: r, _ => by cases x <;> first | rfl | (cases y <;> rfl)
def headOf : PyData → List PyData
  | .tuple [.tuple hs, _] => hs
  | _ => []
def atomsOf : PyData → List PyData
  | .tuple [_, .list as] => as
  | _ => []
def atName : PyData → PyData
  | .tuple [x, _] => x
  | _ => .none
def atTerms : PyData → List PyData
  | .tuple [_, .tuple ts] => ts
  | _ => []
def nameD (ts : List (Str × Int)) : PyData → Bool
  | .str s => (valV (tabK ts) (Sum.inr s)).isSome
  | _ => false
def wdD (ts : List (Str × Int)) : PyData → Int
  | .str s => widthAt ts s
  | _ => 0
def termsD (m : Int) (ds : List PyData) : Bool := decide ((ds.length : Int) = m) && ds.all termD
def standD (d : PyData) : List PyData := (atomsOf d).flatMap atTerms
def safeD (d : PyData) : Bool := (headOf d).all fun x => !isTup x || (standD d).any fun z => PyData.eqv z x
def faultD (ts : List (Str × Int)) (w : Int) (d : PyData) : Str :=
  if formD d = false then "form" else if termsD w (headOf d) = false then "head" else if ((atomsOf d).all fun x => nameD ts (atName x)) = false then "table" else
  if ((atomsOf d).all fun x => termsD (wdD ts (atName x)) (atTerms x)) = false then "terms" else if safeD d = false then "unsafe" else ""
def firstD (ts : List (Str × Int)) (w : Int) : List PyData → Nat → Option (Str × Nat)
  | [], _ => none
  | d :: r, i => if faultD ts w d = "" then firstD ts w r (i + 1) else some (faultD ts w d, i)
def widthD : PyData → Option Int
  | .int i => if 0 ≤ i ∧ i ≤ 12 then some i else none
  | _ => none
def dueD (ts : List (Str × Int)) (w p : PyData) : Option (Str × Int) := match widthD w with
  | none => some ("width", -1)
  | some wi => match p with
    | .list ds => if ds.length ≤ 4000 then (firstD ts wi ds 0).map fun z => (z.1, (z.2 : Int)) else some ("parts", -1)
    | _ => some ("parts", -1)
theorem val_isn {ts : List (Str × Int)} {n : Str} (h : (valV (tabK ts) (Sum.inr n)).isSome = false) : n ∉ ts.map (·.1) := fun hm => by
  obtain ⟨b, hb, e⟩ := List.mem_map.mp hm
  have : ∀ {kvs : List (Key × V)} {k : Key}, k ∈ kvs.map (·.1) → (valV kvs k).isSome = true := by
    intro kvs
    induction kvs with
    | nil => intro k h; cases h
    | cons p r ih =>
      intro k h
      by_cases e : p.1 = k
      · unfold valV
        simp [List.find?, e]
      · rw [valV_neg e]
        rw [List.map_cons] at h
        rcases List.mem_cons.mp h with h | h
        · exact absurd h.symm e
        · exact ih h
  rw [this (by rw [keys_tab]; exact List.mem_map.mpr ⟨n, hm, rfl⟩)] at h
  cases h
theorem val_isy {ts : List (Str × Int)} {n : Str} (h : (valV (tabK ts) (Sum.inr n)).isSome = true) : n ∈ ts.map (·.1) := by
  by_cases hm : n ∈ ts.map (·.1)
  · exact hm
  · rw [valV_no (by rw [keys_tab]; exact inr_no hm)] at h
    cases h
theorem ifT {A B : Prop} (h : A) : if true = true then A else B := by rw [if_pos rfl]; exact h
theorem ifF {A B : Prop} (h : B) : if false = true then A else B := by rw [if_neg (by decide)]; exact h
/-! ### a cell of draws: a list of two ints that every draw changes -/
def Cell (H : Hp) (p : Addr) : Prop := ∃ n c : Int, H p = some (.lst [.int n, .int c])
def Chs (p : Addr) (H H' : Hp) : Prop := Cell H' p ∧ Oth p H H'
theorem Chs.refl {p : Addr} {H : Hp} (h : Cell H p) : Chs p H H := ⟨h, Oth.refl p H⟩
theorem Chs.trans {p : Addr} {H H1 H2 : Hp} (x : Chs p H H1) (y : Chs p H1 H2) : Chs p H H2 := ⟨y.1, fun b o n e => y.2 b o n (x.2 b o n e)⟩
theorem Cell.same {p : Addr} {H H' : Hp} (h : Cell H p) (s : Same H H') : Cell H' p := by
  obtain ⟨n, c, e⟩ := h
  exact ⟨n, c, s _ _ e⟩
theorem Cell.ne {p b : Addr} {H : Hp} (h : Cell H p) (e : H b = none) : b ≠ p := by
  obtain ⟨n, c, e'⟩ := h
  exact (ne_of_none e' e).symm
theorem Chs.sm {p : Addr} {H H1 H2 : Hp} (x : Chs p H H1) (s : Same H1 H2) : Chs p H H2 := ⟨x.1.same s, fun b o n e => s _ _ (x.2 b o n e)⟩
theorem Chs.mut {p b : Addr} {o : HO} {H H1 : Hp} (x : Chs p H H1) (h : H b = none) (n : b ≠ p) : Chs p H (upd H1 b o) := by
  obtain ⟨⟨i, j, e⟩, k⟩ := x
  exact ⟨⟨i, j, by rw [upd_ne n.symm]; exact e⟩, fun c u nc q => by
    rw [upd_ne (ne_of_none q h)]
    exact k c u nc q⟩
theorem Chs.free {p b : Addr} {H H1 : Hp} (x : Chs p H H1) (h0 : Cell H p) (h : H1 b = none) : H b = none := by
  cases e : H b with
  | none => rfl
  | some o =>
    by_cases n : b = p
    · subst n
      obtain ⟨⟨i, j, e'⟩, _⟩ := x
      rw [e'] at h
      cases h
    · rw [x.2 b o n e] at h
      cases h
theorem Chs.at {p b : Addr} {H H' : Hp} {o : HO} (c : Chs p H H') (n : b ≠ p) (e : H b = some o) : H' b = some o := c.2 b o n e
theorem cell_ne {p b : Addr} {H : Hp} {o : HO} (h : Cell H p) (e : H b = some o) (x : ∀ xs, o ≠ .lst xs) : b ≠ p := by
  obtain ⟨n, c, e'⟩ := h
  exact ne_of e e' (x _)
theorem DA.chs {p : Addr} {C : Addr → Prop} {H H' : Hp} {n : Nat} {v : V} {d : PyData} (h : DA C H n v d) (c : Chs p H H') (k : C p) : DA C H' n v d := h.keep fun b o nb e => c.2 b o (fun e' => nb (e' ▸ k)) e
/-- all places of C are taken -/
def Occ (C : Addr → Prop) (H : Hp) : Prop := ∀ a, C a → ∃ o, H a = some o
theorem Occ.same {C : Addr → Prop} {H H' : Hp} (h : Occ C H) (s : Same H H') : Occ C H' := fun a ha => let ⟨o, e⟩ := h a ha; ⟨o, s _ _ e⟩
theorem Occ.chs {C : Addr → Prop} {H H' : Hp} {p : Addr} (h : Occ C H) (c : Chs p H H') : Occ C H' := fun a ha => by
  by_cases e : a = p
  · subst e
    obtain ⟨⟨i, j, e⟩, _⟩ := c
    exact ⟨_, e⟩
  · obtain ⟨o, eo⟩ := h a ha
    exact ⟨o, c.2 a o e eo⟩
theorem Occ.new {C : Addr → Prop} {H : Hp} {b : Addr} (h : Occ C H) (e : H b = none) : ¬ C b := fun hc => by
  obtain ⟨o, eo⟩ := h b hc
  rw [e] at eo
  cases eo
theorem str_cps {s t : Str} (h : s.cps.toList = t.cps.toList) : s = t := by
  cases s
  cases t
  exact congrArg Str.mk (Array.toList_inj.mp h)
theorem join_sgn : ∀ cs : List Nat, Str.join "" (cs.map sgn) = ⟨cs.toArray⟩
  | [] => rfl
  | [c] => rfl
  | c :: e :: r => by
    have ih := join_sgn (e :: r)
    show sgn c ++ "" ++ Str.join "" ((e :: r).map sgn) = _
    rw [ih]
    refine str_cps ?_
    rw [cps_app, cps_app]
    show ([c] ++ ("" : Str).cps.toList) ++ (e :: r).toArray.toList = (c :: e :: r).toArray.toList
    rw [show ("" : Str).cps.toList = [] by decide +kernel]
    simp
section
variable {P : Program} {w : World} {K : PySem.W.Frag} {mg : Str → Option Value} {base : Heap} {a : Nat → Addr} {d : Nat → FuncData}
def spState (K : PySem.W.Frag) : Sp := fun vs H Q _ => ∃ (p : Addr) (ns : List Int) (k : Int), vs = [.ref p, .int k] ∧ SqL K H p (ns.map V.int) ∧ ns.length ≤ 63 ∧ 0 ≤ k ∧ k ≤ 1000 ∧ ∀ q H', H q = none → Cell H' q → Same H H' → Q (.ref q) H'
theorem ok_state (T : Txt K mg a d) : FnOk P w K mg base CX0 1 (a 66) (d 66) ["_law_script", "_law_k"] (spState K) := by
  refine T.F66.ok sc__law_state (fun vs H Q E h => ?_) (fun cdv A outer s H vs Q E hr h => ?_)
  · obtain ⟨p, ns, k, rfl, _⟩ := h
    rfl
  · obtain ⟨p, ns, k, rfl, hS, hl, k0, k1, q⟩ := h
    refine ⟨_, (pss_one (ps_ret (pe_lst (pa_cons (pe_ifExp (pt_cmpR op_lt (pv 1) (pe_callB (id := "len")  call_len_seq (by rfl) T.z_len (by decide +kernel) (pa_cons (pv 0) pa_nil)) (nomark _)) (pe_ix ix_list (pv 0) (pv 1) (fun _ _ => rfl)) pe_int) (pa_cons (pe_op op_mul pe_int (pv 1)) pa_nil))))), ?_⟩
    have fin : ∀ z : Int, ∀ r, H r = none → Q (.ref r) (upd H r (.lst [.int z, .int (101 * k)])) := fun z r hr => q r _ hr ⟨_, _, upd_same⟩ (same_upd hr)
    refine ⟨_, rfl, _, rfl, _, _, rfl, .inl hS, _, _, rfl, rfl, _, rfl, ite_d (fun h1 => ?_) (fun h1 => ?_)⟩
    · have h1 : k < (ns.map V.int).length := h1
      rw [List.length_map] at h1
      have h2 : k.toNat < ns.length := by omega
      exact ⟨_, rfl, _, rfl, _, _, _, _, rfl, rfl, hS, at_g (j := k.toNat) (by omega) (by rw [List.getElem?_map, List.getElem?_eq_getElem h2]; rfl), _, rfl, _, _, rfl, rfl, .inl ⟨by omega, by omega⟩, by show 2 ≤ sizeLine; decide, fun r hr => fin _ r hr⟩
    · exact ⟨_, rfl, _, _, rfl, rfl, .inl ⟨by omega, by omega⟩, by show 2 ≤ sizeLine; decide, fun r hr => fin _ r hr⟩
def spPick2 : Sp := fun vs H Q _ => ∃ (p : Addr) (m : Int), vs = [.ref p, .int m] ∧ Cell H p ∧ 0 < m ∧ m.natAbs < 2 ^ 200 ∧ ∀ (r : Int) (H' : Hp), 0 ≤ r → r < m → Chs p H H' → Q (.int r) H'
theorem ok_pick2 (T : Txt K mg a d) : FnOk P w K mg base CX0 1 (a 67) (d 67) ["_law_state_here", "_law_many"] spPick2 := by
  refine T.F67.ok sc__law_pick (fun vs H Q E h => ?_) (fun cdv A outer s H vs Q E hr h => ?_)
  · obtain ⟨p, m, rfl, _⟩ := h
    rfl
  · obtain ⟨p, m, rfl, ⟨i, j, e⟩, hm, hm2, q⟩ := h
    refine ⟨_, (pss_cons (ps_set (i := 2) sc__law_pick.nd rfl (.inl rfl) (pe_ix ix_list (pv 0) pe_int (fun _ _ => rfl)))
  (pss_cons (ps_if (pt_cmpR op_ge (pv 2) (pe_op op_pow pe_int pe_int) (nomark _))
    (pss_cons (ps_asg (pe_op op_fdivW (pv 2) (pv 1)) (pg_sub (pv 0) pe_int set_list))
      (pss_one (ps_ret (pe_op op_mod (pe_callTy (T := "int")  call_int1 (by rfl) T.z_int (by decide +kernel) (pa_cons (pv 2) pa_nil)) (pv 1)))))
    pss_nil)
  (pss_cons (ps_asg (pe_op op_add (pe_ix ix_list (pv 0) pe_int (fun _ _ => rfl)) pe_int) (pg_sub (pv 0) pe_int set_list))
  (pss_cons (ps_set (i := 3) sc__law_pick.nd rfl (.inl rfl) (pe_op op_mod (pe_op op_add (pe_op op_add (pe_op op_mul (pe_op op_mod (pe_callTy (T := "int")  call_int1 (by rfl) T.z_int (by decide +kernel) (pa_cons (pv 2) pa_nil)) pe_int) pe_int) (pe_op op_mul (pe_ix ix_list (pv 0) pe_int (fun _ _ => rfl)) pe_int)) pe_int) pe_int))
  (pss_cons (ps_set (i := 3) sc__law_pick.nd rfl (.inl rfl) (pe_op op_mod (pe_op op_mul (pv 3) (pe_op op_add (pe_op op_fdivW (pv 3) pe_int) pe_int)) pe_int))
  (pss_cons (ps_set (i := 3) sc__law_pick.nd rfl (.inl rfl) (pe_op op_mod (pe_op op_mul (pv 3) (pe_op op_add (pe_op op_fdivW (pv 3) pe_int) pe_int)) pe_int))
  (pss_one (ps_ret (pe_op op_mod (pv 3) (pv 1)))))))))), ?_⟩
    have e18 : (10 : Int) ^ (18 : Int).toNat = 1000000000000000000 := by decide +kernel
    have o0 := Oth.refl p H
    refine ⟨_, rfl, _, _, _, _, rfl, rfl, .of e, atI_nat (j := 0) rfl, ?_⟩
    refine ⟨_, rfl, _, _, rfl, rfl, ⟨by decide, by decide, by decide⟩, _, _, rfl, rfl, _, rfl, ite_d (fun h1 => ?_) (fun h1 => ?_)⟩
    · refine ⟨_, rfl, _, rfl, _, _, rfl, rfl, wide_div hm hm2 (by decide) (by decide), _, rfl, _, _, _, 0, rfl, rfl, e, ixN_at (j := 0) (by show 0 < 2; decide), ?_⟩
      refine ⟨_, rfl, .inl ⟨_, rfl, _, rfl, _, _, rfl, rfl, hm, ?_⟩⟩
      exact q _ _ (Int.emod_nonneg _ (by omega)) (Int.emod_lt_of_pos _ hm) ⟨⟨_, _, upd_same⟩, o0.upd⟩
    · refine ⟨_, rfl, _, _, _, _, rfl, rfl, .of e, atI_nat (j := 1) rfl, _, _, rfl, rfl, _, rfl, _, _, _, 1, rfl, rfl, e, ixN_at (j := 1) (by show 1 < 2; decide), ?_⟩
      generalize hH : upd H p (HO.lst (List.set _ _ _)) = H1
      have e1 : H1 p = some (.lst [.int i, .int (j + 1)]) := by rw [← hH]; exact upd_same
      have o1 : Oth p H H1 := by rw [← hH]; exact o0.upd
      have fin : ∀ z : Int, Q (.int (z % m)) H1 := fun z => q _ _ (Int.emod_nonneg _ (by omega)) (Int.emod_lt_of_pos _ hm) ⟨⟨_, _, e1⟩, o1⟩
      clear hH
      refine ⟨_, rfl, .inl ⟨_, rfl, _, _, rfl, rfl, (by show (0 : Int) < _; decide), _, _, rfl, rfl, .inr ⟨by decide, by decide⟩, _, rfl, _, _, _, _, rfl, rfl, .of e1, atI_nat (j := 1) rfl, _, _, rfl, rfl, .inr ⟨by decide, by decide⟩, _, _, rfl, rfl, _, _, rfl, rfl, _, _, rfl, rfl, (by show (0 : Int) < _; decide), ?_⟩⟩
      generalize hz : ((i % 2147483647 * 48271 + (j + 1) * 69623 + 11) % 2147483629 : Int) = z
      have z1 : 0 ≤ z ∧ z < 2147483629 := by rw [← hz]; exact ⟨Int.emod_nonneg _ (by decide), Int.emod_lt_of_pos _ (by decide)⟩
      clear hz
      have wd : ∀ {x y : Int}, 0 < y → y.natAbs < 2 ^ 64 → CDivW x y := fun h1 h2 => wide_div h1 h2 (by decide) (by decide)
      refine ⟨_, rfl, _, rfl, _, _, rfl, rfl, wd (by decide) (by decide), _, _, rfl, rfl, _, _, rfl, rfl, .inl ⟨by omega, by omega⟩, _, _, rfl, rfl, (by show (0 : Int) < _; decide), ?_⟩
      generalize hy : (z * (z / 1009 + 69621) % 2147483647 : Int) = y
      have y1 : 0 ≤ y ∧ y < 2147483647 := by rw [← hy]; exact ⟨Int.emod_nonneg _ (by decide), Int.emod_lt_of_pos _ (by decide)⟩
      clear hy
      refine ⟨_, rfl, _, rfl, _, _, rfl, rfl, wd (by decide) (by decide), _, _, rfl, rfl, _, _, rfl, rfl, .inl ⟨by omega, by omega⟩, _, _, rfl, rfl, (by show (0 : Int) < _; decide), ?_⟩
      exact ⟨_, rfl, _, rfl, _, _, rfl, rfl, hm, fin _⟩
end
/-! ### values: whole numbers of 30 digits at most, words -/
def KVal : Key → Prop
  | .inl i => -(10 ^ 30 - 1) ≤ i ∧ i ≤ 10 ^ 30 - 1
  | .inr s => Wd s
theorem KVal.ok {k : Key} (h : KVal k) : KOk k := by
  cases k with
  | inl i => exact trivial
  | inr s => exact wd_strOk h
/-! ### the steps of a program, as data -/
inductive ItD where
  | val (k : Key)
  | idx (i : Int)
def ItAt (H : Hp) (v : V) : ItD → Prop
  | .val k => ∃ p, v = .ref p ∧ H p = some (.tup [kV k])
  | .idx i => v = .int i
inductive StD where
  | start (n : Str)
  | call (n o s : Str) (its : List ItD)
  | join (both : Bool) (n x y : Str)
  | whr (n o : Str) (i : Int) (it : ItD)
  | take (n o : Str) (its : List ItD)
def StD.kind : StD → Str
  | .start _ => "start"
  | .call .. => "call"
  | .join b _ _ _ => if b then "both" else "pair"
  | .whr .. => "where"
  | .take .. => "take"
def StD.name : StD → Str
  | .start n => n
  | .call n _ _ _ => n
  | .join _ n _ _ => n
  | .whr n _ _ _ => n
  | .take n _ _ => n
/-- the names of the relations that it is made of -/
def StD.used : StD → List Str
  | .start _ => []
  | .call _ o _ _ => [o]
  | .join _ _ x y => [x, y]
  | .whr _ o _ _ => [o]
  | .take _ o _ => [o]
def StD.items : StD → List ItD
  | .start _ => []
  | .call _ _ _ its => its
  | .join .. => []
  | .whr _ _ i it => [.idx i, it]
  | .take _ _ its => its
abbrev ItsAt (H : Hp) : List V → List ItD → Prop := Paired (ItAt H)
def StAt (H : Hp) (a : Addr) : StD → Prop
  | .start n => H a = some (.tup [.str "start", .str n])
  | .call n o s its => ∃ g vs, H a = some (.tup [.str "call", .str n, .str o, .str s, .ref g]) ∧ H g = some (.tup vs) ∧ ItsAt H vs its
  | .join b n x y => H a = some (.tup [.str (if b then "both" else "pair"), .str n, .str x, .str y])
  | .whr n o i it => ∃ v, H a = some (.tup [.str "where", .str n, .str o, .int i, v]) ∧ ItAt H v it
  | .take n o its => ∃ g vs, H a = some (.tup [.str "take", .str n, .str o, .ref g]) ∧ H g = some (.tup vs) ∧ ItsAt H vs its
theorem ItAt.keeps {H H' : Hp} {v : V} {it : ItD} (h : ItAt H v it) (k : ∀ b xs, H b = some (.tup xs) → H' b = some (.tup xs)) : ItAt H' v it := by
  cases it with
  | val x => obtain ⟨p, e, h⟩ := h; exact ⟨p, e, k _ _ h⟩
  | idx i => exact h
theorem ItsAt.keeps {H H' : Hp} {vs : List V} {its : List ItD} (h : ItsAt H vs its) (k : ∀ b xs, H b = some (.tup xs) → H' b = some (.tup xs)) : ItsAt H' vs its := L2.Paired.mapP h fun _ _ e => ItAt.keeps e k
theorem StAt.keeps {H H' : Hp} {a : Addr} {st : StD} (h : StAt H a st) (k : ∀ b xs, H b = some (.tup xs) → H' b = some (.tup xs)) : StAt H' a st := by
  cases st with
  | start n => exact k _ _ h
  | call n o s its => obtain ⟨g, vs, h1, h2, h3⟩ := h; exact ⟨g, vs, k _ _ h1, k _ _ h2, ItsAt.keeps h3 k⟩
  | join b n x y => exact k _ _ h
  | whr n o i it => obtain ⟨v, h1, h2⟩ := h; exact ⟨v, k _ _ h1, ItAt.keeps h2 k⟩
  | take n o its => obtain ⟨g, vs, h1, h2, h3⟩ := h; exact ⟨g, vs, k _ _ h1, k _ _ h2, ItsAt.keeps h3 k⟩
/-- an item that has the right form -/
def ItOk : ItD → Prop
  | .val k => KVal k
  | .idx i => 0 ≤ i
section
variable {P : Program} {w : World} {K : PySem.W.Frag} {mg : Str → Option Value} {base : Heap} {a : Nat → Addr} {d : Nat → FuncData}
def spItems : Sp := fun vs H Q _ => ∃ (p : Addr) (st : StD), vs = [.ref p] ∧ StAt H p st ∧ ∀ (g : Addr) (us : List V) (H' : Hp), H' g = some (.tup us) → ItsAt H' us st.items → Same H H' → Q (.ref g) H'
theorem ok_items (T : Txt K mg a d) : FnOk P w K mg base CX0 1 (a 20) (d 20) ["step"] spItems := by
  refine T.F20.ok sc_items_of (fun vs H Q E h => ?_) (fun cdv A outer s H vs Q E hr h => ?_)
  · obtain ⟨p, st, rfl, _⟩ := h
    rfl
  · obtain ⟨p, st, rfl, hs, q⟩ := h
    refine ⟨_, (pss_cons (ps_if (pt_cmpR op_eq (pe_ix ix_tup (pv 0) pe_int (fun _ _ => rfl)) pe_str (nomark _))
    (pss_one (ps_ret (pe_slice sl_tupA (pv 0) (po_some pe_int) (po_some pe_int))))
    pss_nil)
  (pss_one (ps_ret (pe_ifExp (pt_cmpR op_in_seq (pe_ix ix_tup (pv 0) pe_int (fun _ _ => rfl)) (pe_tup (pa_cons pe_str (pa_cons pe_str pa_nil))) (by rfl)) (pe_ix ix_tup (pv 0) (pe_un un_neg pe_int) (fun _ _ => rfl)) (pe_tup pa_nil))))), ?_⟩
    cases st with
    | start n =>
      refine ⟨_, rfl, _, _, _, _, rfl, rfl, .of hs, atI_nat (j := 0) rfl, rfl, _, rfl, ite_d (fun e => absurd (V.str.inj e) (by decide +kernel)) (fun _ => ?_)⟩
      refine ⟨_, rfl, _, _, _, _, rfl, rfl, .of hs, atI_nat (j := 0) rfl, by show 2 ≤ sizeLine; decide, fun t ht => ⟨t, _, rfl, .inr (.of upd_same), rfl, rfl, _, rfl, ?_⟩⟩
      rw [if_neg Bool.false_ne_true, show inV (V.str (Str.ofString "start")) [V.str (Str.ofString "call"), V.str (Str.ofString "take")] = false from by decide +kernel]
      exact ifF ⟨Nat.zero_le _, fun e he => q e [] _ upd_same .nil ((same_upd ht).trans (same_upd he))⟩
    | call n o s its =>
      obtain ⟨g, us, hs, hg, hi⟩ := hs
      refine ⟨_, rfl, _, _, _, _, rfl, rfl, .of hs, atI_nat (j := 0) rfl, rfl, _, rfl, ite_d (fun e => absurd (V.str.inj e) (by decide +kernel)) (fun _ => ?_)⟩
      refine ⟨_, rfl, _, _, _, _, rfl, rfl, .of hs, atI_nat (j := 0) rfl, by show 2 ≤ sizeLine; decide, fun t ht => ⟨t, _, rfl, .inr (.of upd_same), rfl, rfl, _, rfl, ?_⟩⟩
      have st := same_upd (o := .tup [.str "call", .str "take"]) ht
      rw [if_neg Bool.false_ne_true, show inV (V.str (Str.ofString "call")) [V.str (Str.ofString "call"), V.str (Str.ofString "take")] = true from by decide +kernel]
      exact ifT ⟨_, rfl, _, rfl, _, _, _, _, rfl, rfl, .of (st _ _ hs), rfl, q g us _ (st _ _ hg) (ItsAt.keeps hi fun _ _ e => st _ _ e) st⟩
    | join b n x y =>
      have hs : H p = some (.tup [.str (if b then "both" else "pair"), .str n, .str x, .str y]) := hs
      refine ⟨_, rfl, _, _, _, _, rfl, rfl, .of hs, atI_nat (j := 0) rfl, rfl, _, rfl, ite_d (fun e => absurd (V.str.inj e) (by cases b <;> decide +kernel)) (fun _ => ?_)⟩
      refine ⟨_, rfl, _, _, _, _, rfl, rfl, .of hs, atI_nat (j := 0) rfl, by show 2 ≤ sizeLine; decide, fun t ht => ⟨t, _, rfl, .inr (.of upd_same), rfl, rfl, _, rfl, ?_⟩⟩
      rw [if_neg Bool.false_ne_true, show inV (V.str (if b then "both" else "pair")) [V.str (Str.ofString "call"), V.str (Str.ofString "take")] = false from by cases b <;> decide +kernel]
      exact ifF ⟨Nat.zero_le _, fun e he => q e [] _ upd_same .nil ((same_upd ht).trans (same_upd he))⟩
    | whr n o i it =>
      obtain ⟨v, hs, hv⟩ := hs
      refine ⟨_, rfl, _, _, _, _, rfl, rfl, .of hs, atI_nat (j := 0) rfl, rfl, _, rfl, ite_d (fun _ => ?_) (fun e => absurd rfl e)⟩
      refine ⟨_, rfl, _, rfl, _, rfl, ?_⟩
      refine ⟨p, _, rfl, .of hs, fun e => absurd e.1 (show ¬ ((3 : Nat) = 0) by decide), fun _ t ht => ?_⟩
      have st := same_upd (o := .tup [.int i, v]) ht
      exact q t [.int i, v] _ upd_same (.cons rfl (.cons (ItAt.keeps hv fun _ _ e => st _ _ e) .nil)) st
    | take n o its =>
      obtain ⟨g, us, hs, hg, hi⟩ := hs
      refine ⟨_, rfl, _, _, _, _, rfl, rfl, .of hs, atI_nat (j := 0) rfl, rfl, _, rfl, ite_d (fun e => absurd (V.str.inj e) (by decide +kernel)) (fun _ => ?_)⟩
      refine ⟨_, rfl, _, _, _, _, rfl, rfl, .of hs, atI_nat (j := 0) rfl, by show 2 ≤ sizeLine; decide, fun t ht => ⟨t, _, rfl, .inr (.of upd_same), rfl, rfl, _, rfl, ?_⟩⟩
      have st := same_upd (o := .tup [.str "call", .str "take"]) ht
      rw [if_neg Bool.false_ne_true, show inV (V.str (Str.ofString "take")) [V.str (Str.ofString "call"), V.str (Str.ofString "take")] = true from by decide +kernel]
      exact ifT ⟨_, rfl, _, rfl, _, _, _, _, rfl, rfl, .of (st _ _ hs), rfl, q g us _ (st _ _ hg) (ItsAt.keeps hi fun _ _ e => st _ _ e) st⟩
def spIndex : Sp := fun vs H Q _ => ∃ (i : Int), vs = [.int i] ∧ ∀ H', Same H H' → Q (.bl (decide (0 ≤ i))) H'
theorem ok_index (T : Txt K mg a d) : FnOk P w K mg base CX0 2 (a 21) (d 21) ["thing"] spIndex := by
  have G10 : FnOk P w K mg base CX0 1 (a 10) (d 10) ["thing"] (spB plainV) := ok_plain T
  refine T.F21.ok sc__is_index (fun vs H Q E h => ?_) (fun cdv A outer s H vs Q E hr h => ?_)
  · obtain ⟨i, rfl, _⟩ := h
    rfl
  · obtain ⟨i, rfl, q⟩ := h
    refine ⟨_, (pss_one (ps_ret (pe_and (pe_call G10 (hr.mono (by decide)) (by rfl) T.g10 T.F10.kp T.b10 .nil pass0 (pa_cons (pv 0) pa_nil)) (pe_one (pe_cmpR op_ge (pv 0) pe_int (nomark _)))))), ?_⟩
    refine ⟨_, rfl, .int i, rfl, .int _, fun H1 s1 => ⟨_, rfl, ifT ?_⟩⟩
    exact ⟨_, rfl, _, _, rfl, rfl, q _ s1⟩
def itB : ItD → Bool
  | .val k => valV' (kV k)
  | .idx i => decide (0 ≤ i)
def spItem : Sp := fun vs H Q _ => ∃ (v : V) (it : ItD), vs = [v] ∧ ItAt H v it ∧ (∀ k, it = .val k → Thg H (kV k)) ∧ ∀ H', Same H H' → Q (.bl (itB it)) H'
theorem ok_item (T : Txt K mg a d) : FnOk P w K mg base CX0 3 (a 22) (d 22) ["thing"] spItem := by
  have G21 : FnOk P w K mg base CX0 2 (a 21) (d 21) ["thing"] spIndex := ok_index T
  have G12 : FnOk P w K mg base CX0 2 (a 12) (d 12) ["thing"] (spB valV') := ok_is_value T
  refine T.F22.ok sc__is_item (fun vs H Q E h => ?_) (fun cdv A outer s H vs Q E hr h => ?_)
  · obtain ⟨v, it, rfl, _⟩ := h
    rfl
  · obtain ⟨v, it, rfl, hi, ht, q⟩ := h
    refine ⟨_, (pss_cons (ps_if (pt_val (pe_callB (id := "isinstance")  call_isi (by rfl) T.z_isinstance (by decide +kernel) (pa_cons (pv 0) (pa_cons (pe_bltn (v := .ty "tuple") (by rfl) T.z_tuple (by decide +kernel) rfl) pa_nil))))
    (pss_one (ps_ret (pe_and (pe_cmpR op_eq (pe_callB (id := "len")  call_len_seq (by rfl) T.z_len (by decide +kernel) (pa_cons (pv 0) pa_nil)) pe_int (nomark _)) (pe_one (pe_call G12 (hr.mono (by decide)) (by rfl) T.g12 T.F12.kp T.b12 .nil pass0 (pa_cons (pe_ix ix_tup (pv 0) pe_int (fun _ _ => rfl)) pa_nil))))))
    pss_nil)
  (pss_one (ps_ret (pe_call G21 (hr.mono (by decide)) (by rfl) T.g21 T.F21.kp T.b21 .nil pass0 (pa_cons (pv 0) pa_nil))))), ?_⟩
    cases it with
    | val k =>
      obtain ⟨p, rfl, hp⟩ := hi
      refine ⟨_, rfl, _, _, _, _, _, rfl, .ty _, .base (.tup hp), kit_ty (show kitB "tuple" "tuple" = some true by decide +kernel), true, rfl, ifT ?_⟩
      refine ⟨_, rfl, p, _, rfl, .inr (.of hp), rfl, _, rfl, ifT ?_⟩
      exact ⟨_, rfl, _, _, _, _, rfl, rfl, .of hp, atI_nat (j := 0) rfl, kV k, rfl, ht k rfl, fun H1 s1 => q _ s1⟩
    | idx i =>
      obtain rfl : v = .int i := hi
      refine ⟨_, rfl, _, _, _, _, _, rfl, .ty _, .base (.int _), kit_ty (show kitB "int" "tuple" = some false by decide +kernel), false, rfl, ifF ?_⟩
      exact ⟨_, rfl, i, rfl, fun H1 s1 => q _ s1⟩
end
/-! ### the form of a step -/
def kinds : List (Str × Nat × Nat) := [("start", 2, 1), ("call", 5, 3), ("both", 4, 3), ("pair", 4, 3), ("where", 5, 2), ("take", 4, 2)]
/-- the dicts that the module wrote -/
structure TxtW (K : PySem.W.Frag) (w : World) (a : Nat → Addr) : Prop where
  l : WDct K w (a 90018)
  lv : ∀ x ∈ kinds, ∃ t, PySem.W.nsIn K (a 90018) x.1 = some (some (.int (x.2.1 : Nat) t))
  nv : ∀ x ∈ kinds, KDct K w (a 90019) x.1 (.int (x.2.2 : Nat))
def StD.ns : StD → List Str
  | .start n => [n]
  | .call n o s _ => [n, o, s]
  | .join _ n x y => [n, x, y]
  | .whr n o _ _ => [n, o]
  | .take n o _ => [n, o]
def StD.len : StD → Nat
  | .start _ => 2
  | .call .. => 5
  | .join .. => 4
  | .whr .. => 5
  | .take .. => 4
theorem st_kinds (st : StD) : (st.kind, st.len, st.ns.length) ∈ kinds := by
  cases st with
  | join b n x y => cases b <;> simp [kinds, StD.kind, StD.len, StD.ns]
  | _ => simp [kinds, StD.kind, StD.len, StD.ns]
theorem st_tup {H : Hp} {p : Addr} {st : StD} (h : StAt H p st) : ∃ rest : List V, H p = some (.tup (.str st.kind :: (st.ns.map V.str ++ rest))) ∧ st.ns.length + 1 + rest.length = st.len := by
  cases st with
  | start n => exact ⟨[], h, rfl⟩
  | call n o s its => obtain ⟨g, vs, h1, _⟩ := h; exact ⟨[.ref g], h1, rfl⟩
  | join b n x y => exact ⟨[], h, rfl⟩
  | whr n o i it => obtain ⟨v, h1, _⟩ := h; exact ⟨[.int i, v], h1, rfl⟩
  | take n o its => obtain ⟨g, vs, h1, _⟩ := h; exact ⟨[.ref g], h1, rfl⟩
section
variable {P : Program} {w : World} {K : PySem.W.Frag} {mg : Str → Option Value} {base : Heap} {a : Nat → Addr} {d : Nat → FuncData}
theorem int_shaped (i : Int) : SeqAt.shaped (.int i) = true := by simp [SeqAt.shaped, PyData.canLay0, PyData.depth]
theorem cut_mid (x : V) (ns rest : List V) : cutV (x :: (ns ++ rest)) (some 1) (some (1 + (ns.length : Nat))) = ns := by
  unfold cutV
  rw [show ((1 : Int) + (ns.length : Nat)) = ((1 + ns.length : Nat) : Int) by omega, show (1 : Int) = ((1 : Nat) : Int) from rfl, HT.sIx_nat, HT.sIx_nat]
  rw [List.length_cons, List.length_append, Nat.min_eq_left (by omega), Nat.min_eq_left (by omega), Nat.add_sub_cancel_left]
  show (ns ++ rest).take ns.length = ns
  rw [List.take_left']
  rfl
def spHLN : Sp := fun vs H Q _ => ∃ (p : Addr) (st : StD), vs = [.ref p] ∧ StAt H p st ∧ (∀ s ∈ st.ns, Wd s) ∧ ∀ H', Same H H' → Q (.bl true) H'
theorem ok_hln (T : Txt K mg a d) (W : TxtW K w a) : FnOk P w K mg base CX0 3 (a 23) (d 23) ["step"] spHLN := by
  have G11 : FnOk P w K mg base CX0 1 (a 11) (d 11) ["thing"] (spB wordV) := ok_is_word T
  refine T.F23.ok sc__has_length_and_names (fun vs H Q E h => ?_) (fun cdv A outer s H vs Q E hr h => ?_)
  · obtain ⟨p, st, rfl, _⟩ := h
    rfl
  · obtain ⟨p, st, rfl, hs, hw, q⟩ := h
    obtain ⟨rest, hp, hl⟩ := st_tup hs
    refine ⟨_, (pss_cons (ps_if (PW.pt (pw_or (pt_not (pt_val (pe_callB (id := "isinstance")  call_isi (by rfl) T.z_isinstance (by decide +kernel) (pa_cons (pv 0) (pa_cons (pe_bltn (v := .ty "tuple") (by rfl) T.z_tuple (by decide +kernel) rfl) pa_nil))))) (pw_or (pt_not (pt_truth (pv 0) (by intro _; rfl))) (pw_or1 (pt_not (pt_val (pe_callB (id := "isinstance")  call_isi (by rfl) T.z_isinstance (by decide +kernel) (pa_cons (pe_ix ix_tup (pv 0) pe_int (fun _ _ => rfl)) (pa_cons (pe_bltn (v := .ty "str") (by rfl) T.z_str (by decide +kernel) rfl) pa_nil)))))))))
    (pss_one (ps_ret pe_bl))
    pss_nil)
  (pss_cons (ps_if (pt_cmpR (op_neD (hu_of64 hr)) (pe_callB (id := "len")  call_len_seq (by rfl) T.z_len (by decide +kernel) (pa_cons (pv 0) pa_nil)) (pe_wget1 (pe_glob (v := .ref (a 90018)) (by rfl) T.wg__LENGTHS rfl) (pe_ix ix_tup (pv 0) pe_int (fun _ _ => rfl)) ⟨rfl, rfl, rfl, rfl⟩) (nomark _))
    (pss_one (ps_ret pe_bl))
    pss_nil)
  (pss_one (ps_ret (pe_callB (id := "all")  (cr_all rfl) (by rfl) T.z_all (by decide +kernel) (pa_cons (pe_lc (own := [("name", 1)]) rfl sc__has_length_and_names.nd (pi_tup (pe_slice sl_tupA (pv 0) (po_some pe_int) (po_some (pe_op op_add pe_int (pe_ix ix_kdict (pe_glob (v := .ref (a 90019)) (by rfl) T.wg__NAMES rfl) (pe_ix ix_tup (pv 0) pe_int (fun _ _ => rfl)) (fun _ _ => rfl)))))) (blkOk_by (N := ["step", "name"]) (sc := defScope s__has_length_and_names) (by decide +kernel)) (fun _ _ _ _ _ => pg_name (i := 1) sc__has_length_and_names.nd rfl (.inl rfl)) (fun _ _ _ _ _ => pts_nil) (fun _ _ _ _ _ => (pe_call G11 (hr.mono (by decide)) (by rfl) T.g11 T.F11.kp T.b11 .nil pass0 (pa_cons (pv 1) pa_nil)))) pa_nil)))))), ?_⟩
    refine ⟨_, rfl, _, _, _, _, _, rfl, .ty _, .base (.tup hp), kit_ty (show kitB "tuple" "tuple" = some true by decide +kernel), true, rfl, ifF ?_⟩
    refine ⟨_, rfl, true, ?_, ifF ?_⟩
    · exact .inr (.inl ⟨_, .of hp, rfl⟩)
    · refine ⟨_, rfl, _, _, _, _, rfl, rfl, .of hp, atI_nat (j := 0) rfl, _, _, _, _, _, rfl, .ty _, .base (.str _), kit_ty (show kitB "str" "str" = some true by decide +kernel), true, rfl, ifF ?_⟩
      obtain ⟨t, ht⟩ := W.lv _ (st_kinds st)
      refine ⟨_, rfl, p, _, rfl, .inr (.of hp), _, rfl, W.l, _, rfl, _, _, _, _, rfl, rfl, .of hp, atI_nat (j := 0) rfl, st.kind, rfl, .inl ⟨.int (st.len : Nat), _, ht, ⟨t, rfl⟩, _, _, .int _, .int _, int_shaped _, int_shaped _, _, rfl, ?_⟩⟩
      have e1 : ((V.str st.kind :: (st.ns.map V.str ++ rest)).length : Int) = (st.len : Nat) := by
        rw [List.length_cons, List.length_append, List.length_map]
        omega
      rw [e1, PySem.SeqAt.eqv_refl _ (PySem.SeqAt.canLay_of_shaped (int_shaped _))]
      refine ifF ?_
      refine ⟨_, rfl, _, rfl, _, rfl, _, _, _, _, rfl, rfl, .of hp, atI_nat (j := 0) rfl, _, st.kind, _, rfl, rfl, W.nv _ (st_kinds st), _, _, rfl, rfl, _, rfl, ?_⟩
      have nw : ¬ (HT.sIx (V.str st.kind :: (st.ns.map V.str ++ rest)).length 0 (some 1) = 0) := by
        rw [show (1 : Int) = ((1 : Nat) : Int) from rfl, HT.sIx_nat, List.length_cons]
        omega
      refine ⟨p, _, rfl, .of hp, fun e => absurd e.1 nw, fun _ g hg => ?_⟩
      have ec : cutV (V.str st.kind :: (st.ns.map V.str ++ rest)) (some 1) (some (1 + (st.ns.length : Nat))) = st.ns.map V.str := by
        have := cut_mid (V.str st.kind) (st.ns.map V.str) rest
        rw [List.length_map] at this
        exact this
      rw [ec]
      have sg := same_upd (o := .tup (st.ns.map V.str)) hg
      have hg2 : upd H g (.tup (st.ns.map V.str)) g = some (.tup (st.ns.map V.str)) := upd_same
      generalize upd H g (.tup (st.ns.map V.str)) = H1 at sg hg2 ⊢
      refine ⟨g, rfl, ⟨_, .of hg2⟩, fun D hD => ?_⟩
      have l3 : st.ns.length ≤ 3 := by cases st <;> simp [StD.ns]
      refine lc_tup (K := K) (a := g) (xs := st.ns.map V.str) (fun i H' => H' D = some (.lst ((List.replicate i true).map V.bl)) ∧ Same H1 H') ⟨upd_same, same_upd hD⟩ (fun i H' _ hp => .of (hp.2 _ _ hg2)) (fun i y H' hy hp => ?_) (fun H' hp => ?_)
      · obtain ⟨h1, h2⟩ := hp
        obtain ⟨z, hz, rfl⟩ := map_at hy
        have hzm := hw z (List.mem_of_getElem? hz)
        have li : i < st.ns.length := (List.getElem?_eq_some_iff.mp hz).1
        refine ⟨rfl, _, rfl, .str z, rfl, wd_thg hzm, fun H2 s2 => ?_⟩
        rw [show wordV (V.str z) = true from wd_b hzm]
        refine ⟨_, s2 _ _ h1, ?_, ?_, fun c o e => ?_⟩
        · rw [List.length_map, List.length_replicate]
          exact small1000 (by omega)
        · rw [List.replicate_succ', List.map_append]
          exact upd_same
        · rw [upd_ne (ne_of_none e hD)]
          exact s2 _ _ (h2 _ _ e)
      · obtain ⟨h1, h2⟩ := hp
        refine ⟨D, List.replicate (st.ns.map V.str).length true, rfl, .of h1, ?_⟩
        rw [show (List.replicate (st.ns.map V.str).length true).all id = true by rw [List.all_replicate]; simp]
        exact q _ (sg.trans h2)
theorem good_keyV {k : Key} (h : KVal k) : valV' (kV k) = true := by
  cases k with
  | inl i =>
    refine decide_eq_true ?_
    have e : (10 : Int) ^ 30 - 1 = 999999999999999999999999999999 := by decide
    obtain ⟨h1, h2⟩ := (show -(10 ^ 30 - 1) ≤ i ∧ i ≤ 10 ^ 30 - 1 from h)
    rw [e] at h1 h2
    exact ⟨h1, h2⟩
  | inr s =>
    show wordB s = true
    unfold wordB
    rw [decide_eq_true ⟨h.1, h.2.1⟩, Bool.true_and, List.all_eq_true]
    exact fun c hc => decide_eq_true (h.2.2 c hc)
structure StOk (st : StD) : Prop where
  ns : ∀ s ∈ st.ns, Wd s
  its : ∀ it ∈ st.items, ItOk it
  len : st.items.length ≤ 100
theorem itok_b {it : ItD} (h : ItOk it) : itB it = true := by
  cases it with
  | val k => exact good_keyV h
  | idx i => exact decide_eq_true h
theorem kval_thg {H : Hp} {k : Key} (h : KVal k) : Thg H (kV k) := by
  cases k with
  | inl i => exact .int _
  | inr s => exact wd_thg h
def spForm : Sp := fun vs H Q _ => ∃ (p : Addr) (st : StD), vs = [.ref p] ∧ StAt H p st ∧ StOk st ∧ ∀ H', Same H H' → Q (.bl true) H'
theorem ok_form (T : Txt K mg a d) (W : TxtW K w a) : FnOk P w K mg base CX0 4 (a 24) (d 24) ["step"] spForm := by
  have G23 : FnOk P w K mg base CX0 3 (a 23) (d 23) ["step"] spHLN := ok_hln T W
  have G20 : FnOk P w K mg base CX0 1 (a 20) (d 20) ["step"] spItems := ok_items T
  have G22 : FnOk P w K mg base CX0 3 (a 22) (d 22) ["thing"] spItem := ok_item T
  have G21 : FnOk P w K mg base CX0 2 (a 21) (d 21) ["thing"] spIndex := ok_index T
  refine T.F24.ok sc__has_form (fun vs H Q E h => ?_) (fun cdv A outer s H vs Q E hr h => ?_)
  · obtain ⟨p, st, rfl, _⟩ := h
    rfl
  · obtain ⟨p, st, rfl, hs, ho, q⟩ := h
    refine ⟨_, (pss_cons (ps_if (pt_not (pt_val (pe_call G23 (hr.mono (by decide)) (by rfl) T.g23 T.F23.kp T.b23 .nil pass0 (pa_cons (pv 0) pa_nil))))
    (pss_one (ps_ret pe_bl))
    pss_nil)
  (pss_cons (ps_set (i := 1) sc__has_form.nd rfl (.inl rfl) (pe_call G20 (hr.mono (by decide)) (by rfl) T.g20 T.F20.kp T.b20 .nil pass0 (pa_cons (pv 0) pa_nil)))
  (pss_cons (ps_if (PW.pt (pw_or (pt_not (pt_val (pe_callB (id := "isinstance")  call_isi (by rfl) T.z_isinstance (by decide +kernel) (pa_cons (pv 1) (pa_cons (pe_bltn (v := .ty "tuple") (by rfl) T.z_tuple (by decide +kernel) rfl) pa_nil))))) (pw_or1 (pt_not (pt_val (pe_callB (id := "all")  (cr_all rfl) (by rfl) T.z_all (by decide +kernel) (pa_cons (pe_lc (own := [("item", 2)]) rfl sc__has_form.nd (pi_tup (pv 1)) (blkOk_by (N := ["step", "items", "item"]) (sc := defScope s__has_form) (by decide +kernel)) (fun _ _ _ _ _ => pg_name (i := 2) sc__has_form.nd rfl (.inl rfl)) (fun _ _ _ _ _ => pts_nil) (fun _ _ _ _ _ => (pe_call G22 (hr.mono (by decide)) (by rfl) T.g22 T.F22.kp T.b22 .nil pass0 (pa_cons (pv 2) pa_nil)))) pa_nil)))))))
    (pss_one (ps_ret pe_bl))
    pss_nil)
  (pss_one (ps_ret (pe_or (pe_cmpR op_ne (pe_ix ix_tup (pv 0) pe_int (fun _ _ => rfl)) pe_str (nomark _)) (pe_one (pe_call G21 (hr.mono (by decide)) (by rfl) T.g21 T.F21.kp T.b21 .nil pass0 (pa_cons (pe_ix ix_tup (pv 0) pe_int (fun _ _ => rfl)) pa_nil))))))))), ?_⟩
    refine ⟨_, rfl, p, st, rfl, hs, ho.ns, fun H1 s1 => ⟨true, rfl, ifF ?_⟩⟩
    refine ⟨_, rfl, p, st, rfl, hs.keeps fun _ _ e => s1 _ _ e, fun g us H2 hg hi s2 => ?_⟩
    have s02 := s1.trans s2
    refine ⟨_, rfl, _, _, _, _, _, rfl, .ty _, .base (.tup hg), kit_ty (show kitB "tuple" "tuple" = some true by decide +kernel), true, rfl, ifF ?_⟩
    refine ⟨_, rfl, g, rfl, ⟨_, .of hg⟩, fun D hD => ?_⟩
    have hlen := Paired.length hi
    refine lc_tup (K := K) (a := g) (xs := us) (fun i H' => H' D = some (.lst ((List.replicate i true).map V.bl)) ∧ Same H2 H') ⟨upd_same, same_upd hD⟩ (fun i H' _ hp => .of (hp.2 _ _ hg)) (fun i y H' hy hp => ?_) (fun H' hp => ?_)
    · obtain ⟨h1, h2⟩ := hp
      have li : i < us.length := (List.getElem?_eq_some_iff.mp hy).1
      obtain ⟨it, hit, hR⟩ := paired_get hi hy
      have io := ho.its it (List.mem_of_getElem? hit)
      refine ⟨rfl, _, rfl, y, it, rfl, ItAt.keeps hR fun _ _ e => h2 _ _ e, fun k e => by subst e; exact kval_thg io, fun H3 s3 => ?_⟩
      rw [itok_b io]
      refine ⟨_, s3 _ _ h1, ?_, ?_, fun c o e => ?_⟩
      · rw [List.length_map, List.length_replicate]
        exact small1000 (by have := ho.len; omega)
      · rw [List.replicate_succ', List.map_append]
        exact upd_same
      · rw [upd_ne (ne_of_none e hD)]
        exact s3 _ _ (h2 _ _ e)
    · obtain ⟨h1, h2⟩ := hp
      refine ⟨D, List.replicate us.length true, rfl, .of h1, true, by rw [List.all_replicate]; simp, ifF ?_⟩
      have s03 := s02.trans h2
      have hs3 := hs.keeps fun _ _ e => s03 _ _ e
      obtain ⟨rest, hp3, _⟩ := st_tup hs3
      refine ⟨_, rfl, _, _, _, _, rfl, rfl, .of hp3, atI_nat (j := 0) rfl, rfl, ?_⟩
      by_cases hw : st.kind = "where"
      · cases st with
        | whr n o i it =>
          obtain ⟨v, hv, _⟩ := hs3
          refine ⟨_, rfl, ite_nd (fun e => absurd rfl e) (fun _ => ?_)⟩
          have i0 : 0 ≤ i := ho.its (.idx i) List.mem_cons_self
          refine ⟨_, rfl, _, _, _, _, rfl, rfl, .of hv, atI_nat (j := 3) rfl, i, rfl, fun H4 s4 => ?_⟩
          rw [decide_eq_true i0]
          exact q _ (s03.trans s4)
        | start n => exact absurd hw (by show ¬ (("start" : Str) = "where"); decide +kernel)
        | call n o s its => exact absurd hw (by show ¬ (("call" : Str) = "where"); decide +kernel)
        | join b n x y => exact absurd hw (by show ¬ ((if b then "both" else "pair" : Str) = "where"); cases b <;> decide +kernel)
        | take n o its => exact absurd hw (by show ¬ (("take" : Str) = "where"); decide +kernel)
      · refine ⟨_, rfl, ite_nd (fun _ => q _ s03) (fun e => absurd (V.str.inj e) hw)⟩
end
section
variable {P : Program} {w : World} {K : PySem.W.Frag} {mg : Str → Option Value} {base : Heap} {a : Nat → Addr} {d : Nat → FuncData}
def spUsed : Sp := fun vs H Q _ => ∃ (p : Addr) (st : StD), vs = [.ref p] ∧ StAt H p st ∧ ∀ (g : Addr) (H' : Hp), H' g = some (.tup (st.used.map V.str)) → Same H H' → Q (.ref g) H'
theorem ok_used (T : Txt K mg a d) : FnOk P w K mg base CX0 1 (a 25) (d 25) ["step"] spUsed := by
  refine T.F25.ok sc__used (fun vs H Q E h => ?_) (fun cdv A outer s H vs Q E hr h => ?_)
  · obtain ⟨p, st, rfl, _⟩ := h
    rfl
  · obtain ⟨p, st, rfl, hs, q⟩ := h
    obtain ⟨rest, hp, hl⟩ := st_tup hs
    refine ⟨_, (pss_cons (ps_if (pt_cmpR op_in_seq (pe_ix ix_tup (pv 0) pe_int (fun _ _ => rfl)) (pe_tup (pa_cons pe_str (pa_cons pe_str pa_nil))) (by rfl))
    (pss_one (ps_ret (pe_slice sl_tupA (pv 0) (po_some pe_int) (po_some pe_int))))
    pss_nil)
  (pss_one (ps_ret (pe_slice sl_tupA (pv 0) (po_some pe_int) (po_some pe_int))))), ?_⟩
    refine ⟨_, rfl, _, _, _, _, rfl, rfl, .of hp, atI_nat (j := 0) rfl, by show 2 ≤ sizeLine; decide, fun t ht => ⟨t, _, rfl, .inr (.of upd_same), rfl, rfl, _, rfl, ?_⟩⟩
    have st1 := same_upd (o := .tup [.str "both", .str "pair"]) ht
    have hs1 := hs.keeps fun _ _ e => st1 _ _ e
    generalize upd H t (.tup [V.str (Str.ofString "both"), V.str (Str.ofString "pair")]) = H1 at st1 hs1 ⊢
    rw [if_neg Bool.false_ne_true]
    have fin : ∀ (xs : List V) (hi : Int), H1 p = some (.tup xs) → 2 ≤ xs.length → cutV xs (some 2) (some hi) = st.used.map V.str → ∃ (b : Addr) (ys : List V), V.ref p = .ref b ∧ SqT K H1 b ys ∧ ((HT.sIx ys.length 0 (some 2) = 0 ∧ HT.sIx ys.length ys.length (some hi) = ys.length → Q (.ref b) H1) ∧ (¬(HT.sIx ys.length 0 (some 2) = 0 ∧ HT.sIx ys.length ys.length (some hi) = ys.length) → ∀ g, H1 g = none → Q (.ref g) (upd H1 g (.tup (cutV ys (some 2) (some hi)))))) := fun xs hi h1 h2 h3 => by
      refine ⟨p, xs, rfl, .of h1, fun e => ?_, fun _ g hg => ?_⟩
      · have e1 := e.1
        rw [show (2 : Int) = ((2 : Nat) : Int) from rfl, HT.sIx_nat] at e1
        omega
      · rw [h3]
        exact q g _ upd_same (st1.trans (same_upd hg))
    cases st with
    | start n =>
      rw [show inV (V.str (StD.start n).kind) [V.str (Str.ofString "both"), V.str (Str.ofString "pair")] = false from by show inV (V.str (Str.ofString "start")) _ = false; decide +kernel]
      refine ifF ⟨_, rfl, _, rfl, _, rfl, fin _ _ hs1 (by show 2 ≤ 2; decide) rfl⟩
    | call n o s its =>
      obtain ⟨g, us, h1, _⟩ := hs1
      rw [show inV (V.str (StD.call n o s its).kind) [V.str (Str.ofString "both"), V.str (Str.ofString "pair")] = false from by show inV (V.str (Str.ofString "call")) _ = false; decide +kernel]
      refine ifF ⟨_, rfl, _, rfl, _, rfl, fin _ _ h1 (by show 2 ≤ 5; decide) rfl⟩
    | join b n x y =>
      have h1 : H1 p = some (.tup [.str (if b then "both" else "pair"), .str n, .str x, .str y]) := hs1
      rw [show inV (V.str (StD.join b n x y).kind) [V.str (Str.ofString "both"), V.str (Str.ofString "pair")] = true from by show inV (V.str (if b then "both" else "pair")) _ = true; cases b <;> decide +kernel]
      refine ifT ⟨_, rfl, _, rfl, _, rfl, fin _ _ h1 (by show 2 ≤ 4; decide) rfl⟩
    | whr n o i it =>
      obtain ⟨v, h1, _⟩ := hs1
      rw [show inV (V.str (StD.whr n o i it).kind) [V.str (Str.ofString "both"), V.str (Str.ofString "pair")] = false from by show inV (V.str (Str.ofString "where")) _ = false; decide +kernel]
      refine ifF ⟨_, rfl, _, rfl, _, rfl, fin _ _ h1 (by show 2 ≤ 5; decide) rfl⟩
    | take n o its =>
      obtain ⟨g, us, h1, _⟩ := hs1
      rw [show inV (V.str (StD.take n o its).kind) [V.str (Str.ofString "both"), V.str (Str.ofString "pair")] = false from by show inV (V.str (Str.ofString "take")) _ = false; decide +kernel]
      refine ifF ⟨_, rfl, _, rfl, _, rfl, fin _ _ h1 (by show 2 ≤ 4; decide) rfl⟩
end
/-! ### the sizes of the relations so far -/
/-- the width, the parts and the calls -/
abbrev SzD := Int × Int × Int
def szV (t : SzD) : List V := [.int t.1, .int t.2.1, .int t.2.2]
/-- the dict: for each name the size, or nothing -/
def SzAt (H : Hp) (z : Addr) (sz : Str → Option SzD) : Prop :=
  ∃ kvs : List (Key × V), H z = some (.dK kvs) ∧ ∀ n, (sz n = none → valV kvs (.inr n) = none) ∧ ∀ t, sz n = some t → ∃ b, valV kvs (.inr n) = some (.ref b) ∧ H b = some (.tup (szV t))
theorem SzAt.get {H : Hp} {z : Addr} {sz : Str → Option SzD} (h : SzAt H z sz) {n : Str} {t : SzD} (e : sz n = some t) : ∃ b, DGet H z (.str n) (some (.ref b)) ∧ H b = some (.tup (szV t)) := by
  obtain ⟨kvs, hz, h⟩ := h
  obtain ⟨b, e1, e2⟩ := (h n).2 t e
  exact ⟨b, e1 ▸ DGet.k (k := .inr n) hz, e2⟩
theorem SzAt.has {H : Hp} {z : Addr} {sz : Str → Option SzD} (h : SzAt H z sz) (n : Str) : ∃ o, DGet H z (.str n) o ∧ o.isSome = (sz n).isSome := by
  obtain ⟨kvs, hz, h⟩ := h
  refine ⟨_, DGet.k (k := .inr n) hz, ?_⟩
  cases e : sz n with
  | none => rw [(h n).1 e]; rfl
  | some t =>
    obtain ⟨b, e1, _⟩ := (h n).2 t e
    rw [e1]
    rfl
theorem SzAt.same {H H' : Hp} {z : Addr} {sz : Str → Option SzD} (h : SzAt H z sz) (s : Same H H') : SzAt H' z sz := by
  obtain ⟨kvs, hz, h⟩ := h
  refine ⟨kvs, s _ _ hz, fun n => ⟨(h n).1, fun t e => ?_⟩⟩
  obtain ⟨b, e1, e2⟩ := (h n).2 t e
  exact ⟨b, e1, s _ _ e2⟩
/-- the widths of the two parts of a union are equal -/
def joinB (sz : Str → Option SzD) : StD → Bool
  | .join true _ x y => decide (((sz x).getD (0, 0, 0)).1 = ((sz y).getD (0, 0, 0)).1)
  | _ => true
section
variable {P : Program} {w : World} {K : PySem.W.Frag} {mg : Str → Option Value} {base : Heap} {a : Nat → Addr} {d : Nat → FuncData}
def spJoin : Sp := fun vs H Q _ => ∃ (p z : Addr) (st : StD) (sz : Str → Option SzD), vs = [.ref p, .ref z] ∧ StAt H p st ∧ SzAt H z sz ∧ (∀ n ∈ st.used, (sz n).isSome = true) ∧ Q (.bl (joinB sz st)) H
theorem ok_join (T : Txt K mg a d) : FnOk P w K mg base CX0 1 (a 29) (d 29) ["step", "sizes"] spJoin := by
  refine T.F29.ok sc__joins_equal_widths (fun vs H Q E h => ?_) (fun cdv A outer s H vs Q E hr h => ?_)
  · obtain ⟨p, z, st, sz, rfl, _⟩ := h
    rfl
  · obtain ⟨p, z, st, sz, rfl, hs, hz, hu, q⟩ := h
    obtain ⟨rest, hp, hl⟩ := st_tup hs
    refine ⟨_, (pss_one (ps_ret (pe_or (pe_cmpR op_ne (pe_ix ix_tup (pv 0) pe_int (fun _ _ => rfl)) pe_str (nomark _)) (pe_one (pe_cmpR op_eq (pe_ix ix_tup (pe_dget (hu_of hr) (pv 1) (pe_ix ix_tup (pv 0) pe_int (fun _ _ => rfl)) (fun _ _ => rfl)) pe_int (fun _ _ => rfl)) (pe_ix ix_tup (pe_dget (hu_of hr) (pv 1) (pe_ix ix_tup (pv 0) pe_int (fun _ _ => rfl)) (fun _ _ => rfl)) pe_int (fun _ _ => rfl)) (nomark _)))))), ?_⟩
    refine ⟨_, rfl, _, _, _, _, rfl, rfl, .of hp, atI_nat (j := 0) rfl, rfl, _, rfl, ?_⟩
    rw [show decide (V.str st.kind = V.str (Str.ofString "both")) = decide (st.kind = "both") from by rw [Bool.eq_iff_iff]; simp]
    cases st with
    | join b n x y =>
      cases b with
      | true =>
        have h1 : H p = some (.tup [.str "both", .str n, .str x, .str y]) := hs
        obtain ⟨tx, ex⟩ := Option.isSome_iff_exists.mp (hu x (by show x ∈ [x, y]; simp))
        obtain ⟨ty, ey⟩ := Option.isSome_iff_exists.mp (hu y (by show y ∈ [x, y]; simp))
        obtain ⟨bx, gx, hx⟩ := hz.get ex
        obtain ⟨b', gy, hy⟩ := hz.get ey
        rw [show decide ((StD.join true n x y).kind = "both") = true from rfl]
        refine ifF ?_
        refine ⟨_, rfl, _, rfl, _, _, _, _, rfl, rfl, .of h1, atI_nat (j := 2) rfl, z, _, rfl, gx, _, _, _, _, rfl, rfl, .of hx, atI_nat (j := 0) rfl, ?_⟩
        refine ⟨_, rfl, _, rfl, _, _, _, _, rfl, rfl, .of h1, atI_nat (j := 3) rfl, z, _, rfl, gy, _, _, _, _, rfl, rfl, .of hy, atI_nat (j := 0) rfl, rfl, ?_⟩
        have e : joinB sz (.join true n x y) = decide (tx.1 = ty.1) := by show decide (((sz x).getD (0, 0, 0)).1 = ((sz y).getD (0, 0, 0)).1) = _; rw [ex, ey]; rfl
        rw [e] at q
        rw [show decide (V.int tx.1 = V.int ty.1) = decide (tx.1 = ty.1) from by rw [Bool.eq_iff_iff]; simp]
        exact q
      | false =>
        rw [show decide ((StD.join false n x y).kind = "both") = false from by show decide (("pair" : Str) = "both") = false; decide +kernel]
        exact ifT q
    | start n => rw [show decide ((StD.start n).kind = "both") = false from by show decide (("start" : Str) = "both") = false; decide +kernel]; exact ifT q
    | call n o s its => rw [show decide ((StD.call n o s its).kind = "both") = false from by show decide (("call" : Str) = "both") = false; decide +kernel]; exact ifT q
    | whr n o i it => rw [show decide ((StD.whr n o i it).kind = "both") = false from by show decide (("where" : Str) = "both") = false; decide +kernel]; exact ifT q
    | take n o its => rw [show decide ((StD.take n o its).kind = "both") = false from by show decide (("take" : Str) = "both") = false; decide +kernel]; exact ifT q
end
/-! ### the names of a step -/
theorem st_name {H : Hp} {p : Addr} {st : StD} (h : StAt H p st) : ∃ r, H p = some (.tup (.str st.kind :: .str st.name :: r)) := by
  cases st with
  | start n => exact ⟨_, h⟩
  | call n o s its => obtain ⟨g, vs, h1, _⟩ := h; exact ⟨_, h1⟩
  | join b n x y => exact ⟨_, h⟩
  | whr n o i it => obtain ⟨v, h1, _⟩ := h; exact ⟨_, h1⟩
  | take n o its => obtain ⟨g, vs, h1, _⟩ := h; exact ⟨_, h1⟩
/-- the name is new, the others are known -/
def namesB (sz : Str → Option SzD) (ss : List SvE) (st : StD) : Bool :=
  !(sz st.name).isSome && st.used.all (fun n => (sz n).isSome) && match st with
    | .call _ _ s _ => (ss.map (·.name)).any fun x => decide (x = s)
    | _ => true
theorem inV_perm (s : Str) {ys zs : List Str} (h : ys.Perm zs) : inV (V.str s) (ys.map V.str) = zs.any fun x => decide (x = s) := by
  unfold inV
  rw [List.any_map, Bool.eq_iff_iff, List.any_eq_true, List.any_eq_true]
  constructor
  · rintro ⟨y, hy, e⟩
    exact ⟨y, h.mem_iff.mp hy, by simpa [eqV] using e⟩
  · rintro ⟨y, hy, e⟩
    exact ⟨y, h.mem_iff.mpr hy, by simpa [eqV] using e⟩
theorem used_len (st : StD) : st.used.length ≤ 2 := by cases st <;> simp [StD.used]
section
variable {P : Program} {w : World} {K : PySem.W.Frag} {mg : Str → Option Value} {base : Heap} {a : Nat → Addr} {d : Nat → FuncData}
def spHasN (C : Addr) : Sp := fun vs H Q _ => ∃ (sp p z : Addr) (st : StD) (sz : Str → Option SzD) (ts : List (Str × Int)) (ks : List KeyE) (ss : List SvE) (m n : Nat), vs = [.ref sp, .ref p, .ref z] ∧ SchAt C sp H ts ks ss m n ∧ StAt H p st ∧ SzAt H z sz ∧ ∀ H', Same H H' → Q (.bl (namesB sz ss st)) H'
theorem ok_hasn (T : Txt K mg a d) : FnOk P w K mg base CX0 2 (a 26) (d 26) ["schema", "step", "sizes"] (spHasN (a 48)) := by
  have G25 : FnOk P w K mg base CX0 1 (a 25) (d 25) ["step"] spUsed := ok_used T
  have G5806 : FnOk P w K mg base CX0 1 (a 5806) (d 5806) ["self"] (spNms (a 48) fun _ ss => ss.map (·.name)) := ok_service_names T
  refine T.F26.ok sc__has_names (fun vs H Q E h => ?_) (fun cdv A outer s H vs Q E hr h => ?_)
  · obtain ⟨sp, p, z, st, sz, ts, ks, ss, m, n, rfl, _⟩ := h
    rfl
  · obtain ⟨sp, p, z, st, sz, ts, ks, ss, m, n, rfl, hS, hs, hz, q⟩ := h
    obtain ⟨rest, hp⟩ := st_name hs
    obtain ⟨dx, d1, d2, d3, o0⟩ := hS
    refine ⟨_, (pss_cons (ps_if (PW.pt (pw_or (pt_cmp (pc_din (hu_of hr) (pe_ix ix_tup (pv 1) pe_int (fun _ _ => rfl)) (pv 2))) (pw_or1 (pt_not (pt_val (pe_callB (id := "all")  (cr_all rfl) (by rfl) T.z_all (by decide +kernel) (pa_cons (pe_lc (own := [("name", 3)]) rfl sc__has_names.nd (pi_tup (pe_call G25 (hr.mono (by decide)) (by rfl) T.g25 T.F25.kp T.b25 .nil pass0 (pa_cons (pv 1) pa_nil))) (blkOk_by (N := ["schema", "step", "sizes", "name"]) (sc := defScope s__has_names) (by decide +kernel)) (fun _ _ _ _ _ => pg_name (i := 3) sc__has_names.nd rfl (.inl rfl)) (fun _ _ _ _ _ => pts_nil) (fun _ _ _ _ _ => (pe_cmp (pc_din (hu_of hr) (pv 3) (pv 2)) rfl))) pa_nil)))))))
    (pss_one (ps_ret pe_bl))
    pss_nil)
  (pss_one (ps_ret (pe_or (pe_cmpR op_ne (pe_ix ix_tup (pv 1) pe_int (fun _ _ => rfl)) pe_str (nomark _)) (pe_one (pe_cmpR op_in_seq (pe_ix ix_tup (pv 1) pe_int (fun _ _ => rfl)) (pe_meth0 (pv 0) T.cl_48 T.m_5806 G5806 (hr.mono (by decide)) T.b5806 .nil pass0) (by rfl))))))), ?_⟩
    obtain ⟨o, g1, g2⟩ := hz.has st.name
    refine ⟨_, rfl, _, _, _, _, rfl, rfl, .of hp, atI_nat (j := 1) rfl, _, rfl, z, _, rfl, g1, ?_⟩
    rw [g2]
    by_cases e1 : (sz st.name).isSome = true
    · rw [e1]
      refine ⟨_, rfl, ifT (ifT ?_)⟩
      have e : namesB sz ss st = false := by unfold namesB; rw [e1]; rfl
      exact e ▸ q H (fun _ _ e => e)
    · have e1' : (sz st.name).isSome = false := by cases h : (sz st.name).isSome with | true => exact absurd h e1 | false => rfl
      rw [e1']
      refine ⟨_, rfl, ifF ?_⟩
      refine ⟨_, rfl, p, st, rfl, hs, fun g H1 hg s1 => ?_⟩
      refine ⟨g, rfl, ⟨_, .of hg⟩, fun D hD => ?_⟩
      have l3 := used_len st
      refine lc_tup (K := K) (a := g) (xs := st.used.map V.str) (fun i H' => H' D = some (.lst (((st.used.take i).map fun n => (sz n).isSome).map V.bl)) ∧ Same H1 H') ⟨upd_same, same_upd hD⟩ (fun i H' _ hp => .of (hp.2 _ _ hg)) (fun i y H' hy hp => ?_) (fun H' hp => ?_)
      · obtain ⟨h1, h2⟩ := hp
        obtain ⟨x, hx, rfl⟩ := map_at hy
        obtain ⟨ox, f1, f2⟩ := ((hz.same s1).same h2).has x
        have li : i < st.used.length := (List.getElem?_eq_some_iff.mp hx).1
        refine ⟨rfl, _, rfl, _, rfl, z, _, rfl, f1, ?_⟩
        rw [f2]
        refine ⟨_, h1, ?_, ?_, fun c o e => ?_⟩
        · rw [List.length_map, List.length_map, List.length_take]
          exact small1000 (by omega)
        · rw [List.take_succ, hx, List.map_append, List.map_append]
          exact upd_same
        · rw [upd_ne (ne_of_none e hD)]
          exact h2 _ _ e
      · obtain ⟨h1, h2⟩ := hp
        rw [List.length_map, List.take_length] at h1
        refine ⟨D, _, rfl, .of h1, _, rfl, ?_⟩
        have ea : ((st.used.map fun n => (sz n).isSome)).all id = st.used.all (fun n => (sz n).isSome) := by rw [List.all_map]; rfl
        rw [ea]
        have s2 := s1.trans h2
        cases e2 : st.used.all (fun n => (sz n).isSome) with
        | false =>
          refine ifT ?_
          have e : namesB sz ss st = false := by unfold namesB; rw [e2, Bool.and_false]; rfl
          exact e ▸ q H' s2
        | true =>
          refine ifF ?_
          have hs' := hs.keeps fun _ _ e => s2 _ _ e
          have e3 : (sz st.name).isSome = false := e1'
          refine ⟨_, rfl, _, _, _, _, rfl, rfl, .of (s2 _ _ hp), atI_nat (j := 0) rfl, rfl, _, rfl, ?_⟩
          rw [show decide (V.str st.kind = V.str (Str.ofString "call")) = decide (st.kind = "call") from by rw [Bool.eq_iff_iff]; simp]
          cases st with
          | call n o s its =>
            obtain ⟨g', us, k1, _⟩ := hs'
            rw [show decide ((StD.call n o s its).kind = "call") = true from rfl]
            refine ifF ?_
            refine ⟨_, rfl, _, _, _, _, rfl, rfl, .of k1, atI_nat (j := 3) rfl, _, rfl, sp, dx, _, rfl, (o0.same s2).ob, flds_no _ _ _ (by decide +kernel) (by decide +kernel) (by decide +kernel), sp, ts, ks, ss, m, _, rfl, ⟨dx, d1, d2, d3, o0.same s2⟩, fun l ys H2 hl h5 yp so s3 => ?_⟩
            refine ⟨l, _, rfl, .inl (.of h5), rfl, flat_strs ys, ?_⟩
            have e : namesB sz ss (.call n o s its) = inV (V.str s) (ys.map V.str) := by unfold namesB; rw [e2, e3, inV_perm s yp]; rfl
            rw [if_neg Bool.false_ne_true]
            exact e ▸ q H2 (s2.trans s3)
          | start n =>
            rw [show decide ((StD.start n).kind = "call") = false from by show decide (("start" : Str) = "call") = false; decide +kernel]
            refine ifT ?_
            have e : namesB sz ss (.start n) = true := by unfold namesB; rw [e2, e3]; rfl
            exact e ▸ q H' s2
          | join b n x y =>
            rw [show decide ((StD.join b n x y).kind = "call") = false from by show decide ((if b then "both" else "pair" : Str) = "call") = false; cases b <;> decide +kernel]
            refine ifT ?_
            have e : namesB sz ss (.join b n x y) = true := by unfold namesB; rw [e2, e3]; rfl
            exact e ▸ q H' s2
          | whr n o i it =>
            rw [show decide ((StD.whr n o i it).kind = "call") = false from by show decide (("where" : Str) = "call") = false; decide +kernel]
            refine ifT ?_
            have e : namesB sz ss (.whr n o i it) = true := by unfold namesB; rw [e2, e3]; rfl
            exact e ▸ q H' s2
          | take n o its =>
            rw [show decide ((StD.take n o its).kind = "call") = false from by show decide (("take" : Str) = "call") = false; decide +kernel]
            refine ifT ?_
            have e : namesB sz ss (.take n o its) = true := by unfold namesB; rw [e2, e3]; rfl
            exact e ▸ q H' s2
end
/-! ### the items of a step -/
def itIn (wd : Int) : ItD → Bool
  | .val _ => true
  | .idx i => decide (i < wd)
theorem st_from {H : Hp} {p : Addr} {st : StD} (h : StAt H p st) (ni : st.items ≠ []) : ∃ o r, st.used = [o] ∧ H p = some (.tup (.str st.kind :: .str st.name :: .str o :: r)) := by
  cases st with
  | start n => exact absurd rfl ni
  | call n o s its => obtain ⟨g, vs, h1, _⟩ := h; exact ⟨_, _, rfl, h1⟩
  | join b n x y => exact absurd rfl ni
  | whr n o i it => obtain ⟨v, h1, _⟩ := h; exact ⟨_, _, rfl, h1⟩
  | take n o its => obtain ⟨g, vs, h1, _⟩ := h; exact ⟨_, _, rfl, h1⟩
def callOk (n : Nat) : StD → Bool
  | .call _ _ _ its => decide (its.length = n)
  | _ => true
def itemsB (sz : Str → Option SzD) (n : Nat) (st : StD) : Bool :=
  callOk n st && st.items.all (itIn ((sz (st.used.headD "")).getD (0, 0, 0)).1)
section
variable {P : Program} {w : World} {K : PySem.W.Frag} {mg : Str → Option Value} {base : Heap} {a : Nat → Addr} {d : Nat → FuncData}
def spHasI (C : Addr) : Sp := fun vs H Q _ => ∃ (sp p z : Addr) (st : StD) (sz : Str → Option SzD) (ts : List (Str × Int)) (ks : List KeyE) (ss : List SvE) (m n k : Nat), vs = [.ref sp, .ref p, .ref z] ∧ SchAt C sp H ts ks ss m n ∧ StAt H p st ∧ SzAt H z sz ∧ (∀ n ∈ st.used, (sz n).isSome = true) ∧ st.items.length ≤ 100 ∧
  (∀ n o s its, st = .call n o s its → ∃ b ∈ ss, b.name = s ∧ b.cols.length = k) ∧ ∀ H', Same H H' → Q (.bl (itemsB sz k st)) H'
theorem ok_hasi (T : Txt K mg a d) : FnOk P w K mg base CX0 5 (a 27) (d 27) ["schema", "step", "sizes"] (spHasI (a 48)) := by
  have G20 : FnOk P w K mg base CX0 1 (a 20) (d 20) ["step"] spItems := ok_items T
  have G5810 : FnOk P w K mg base (L2.CX P w) 4 (a 5810) (d 5810) ["self", "name"] (spAsk (a 48) (a 3) (fun _ _ ss n => valV (svK ss) (Sum.inr n)) (fun _ _ ss n => valV (svK ss) (Sum.inr n))) := ok_service_of T
  refine T.F27.ok sc__has_items (fun vs H Q E h => ?_) (fun cdv A outer s H vs Q E hr h => ?_)
  · obtain ⟨sp, p, z, st, sz, ts, ks, ss, m, n, k, rfl, _⟩ := h
    rfl
  · obtain ⟨sp, p, z, st, sz, ts, ks, ss, m, n, k, rfl, hS, hs, hz, hu, l100, hc, q⟩ := h
    obtain ⟨rest, hp⟩ := st_name hs
    obtain ⟨dx, d1, d2, d3, o0⟩ := hS
    refine ⟨_, (pss_cons (ps_set (i := 3) sc__has_items.nd rfl (.inl rfl) (pe_call G20 (hr.mono (by decide)) (by rfl) T.g20 T.F20.kp T.b20 .nil pass0 (pa_cons (pv 1) pa_nil)))
  (Evl.pss_cut (ps_if (PW.pt (pw_and (pt_cmpR op_eq (pe_ix ix_tup (pv 1) pe_int (fun _ _ => rfl)) pe_str (nomark _)) (pw_and1 (pt_cmpR op_ne (pe_callB (id := "len")  call_len_seq (by rfl) T.z_len (by decide +kernel) (pa_cons (pv 3) pa_nil)) (pe_callB (id := "len")  call_len_seq (by rfl) T.z_len (by decide +kernel) (pa_cons (pe_ix ix_tup (pe_meth (pv 0) T.cl_48 T.m_5810 G5810 (hr.mono (by decide)) T.b5810 .nil (passN rfl) (pa_cons (pe_ix ix_tup (pv 1) pe_int (fun _ _ => rfl)) pa_nil)) pe_int (fun _ _ => rfl)) pa_nil)) (nomark _)))))
    (pss_one (ps_ret pe_bl))
    pss_nil)
  (pss_one (ps_ret (pe_callB (id := "all")  (cr_all rfl) (by rfl) T.z_all (by decide +kernel) (pa_cons (pe_lc (own := [("item", 4)]) rfl sc__has_items.nd (pi_tup (pv 3)) (blkOk_by (N := ["schema", "step", "sizes", "items", "item"]) (sc := defScope s__has_items) (by decide +kernel)) (fun _ _ _ _ _ => pg_name (i := 4) sc__has_items.nd rfl (.inl rfl)) (fun _ _ _ _ _ => pts_nil) (fun _ _ _ _ _ => (pe_or (pe_callB (id := "isinstance") (r := rIsi K)  call_isi (by rfl) T.z_isinstance (by decide +kernel) (pa_cons (pv 4) (pa_cons (pe_bltn (v := .ty "tuple") (by rfl) T.z_tuple (by decide +kernel) rfl) pa_nil))) (pe_one (pe_cmpR op_lt (pv 4) (pe_ix (r := rIxT K) ix_tup (pe_dget (hu_of hr) (pv 2) (pe_ix (r := rIxT K) ix_tup (pv 1) pe_int (fun _ _ => rfl)) (fun _ _ => rfl)) pe_int (fun _ _ => rfl)) (nomark _)))))) pa_nil)))))), ?_⟩
    refine ⟨_, rfl, p, st, rfl, hs, fun g us H1 hg hi s1 => ?_⟩
    have hs1 := hs.keeps fun _ _ e => s1 _ _ e
    have hz1 := hz.same s1
    obtain ⟨rest1, hp1⟩ := st_name hs1
    refine ⟨fun σ' H' => σ' = (L2.start ["schema", "step", "sizes", "items", "item"] [V.ref sp, V.ref p, V.ref z]).set 3 (some (V.ref g)) ∧ H' = H1 ∧ callOk k st = true, ?_, ?_⟩
    · refine ⟨_, rfl, _, _, _, _, rfl, rfl, .of hp1, atI_nat (j := 0) rfl, rfl, _, rfl, ?_⟩
      rw [show decide (V.str st.kind = V.str (Str.ofString "call")) = decide (st.kind = "call") from by rw [Bool.eq_iff_iff]; simp]
      cases st with
      | call n o s its =>
        obtain ⟨b, hb, rfl, hk⟩ := hc n o s its rfl
        obtain ⟨g', us', k1, _⟩ := hs1
        have o1 := o0.same s1
        have h4 := val_nodup (sv_nd o1.hS) (Sum.inr b.name, V.ref b.at_) (List.mem_map.mpr ⟨b, hb, rfl⟩)
        rw [show decide ((StD.call n o b.name its).kind = "call") = true from rfl]
        refine ifT ?_
        refine ⟨_, rfl, g, us, rfl, .inr (.of hg), _, rfl, sp, dx, _, rfl, o1.ob, flds_no _ _ _ (by decide +kernel) (by decide +kernel) (by decide +kernel), _, rfl, _, _, _, _, rfl, rfl, .of k1, atI_nat (j := 3) rfl, sp, b.name, ts, ks, ss, m, _, rfl, ⟨dx, d1, d2, d3, o1⟩, fun v hv => ⟨_, hv, ?_⟩, fun hn => ?_⟩
        · have e2 : v = V.ref b.at_ := Option.some.inj ((show some v = valV (svK ss) (Sum.inr b.name) from hv.symm).trans h4)
          subst e2
          have sok := o1.hS.ok b hb
          have hlen : us.length = its.length := Paired.length hi
          refine ⟨_, _, _, _, rfl, rfl, .of sok.told.tup, atI_nat (j := 1) rfl, b.ga, _, rfl, .inr (.of sok.told.cols), rfl, _, rfl, ?_⟩
          rw [List.length_map, hlen, hk, show (!decide (V.int (its.length : Nat) = V.int (k : Nat))) = !decide (its.length = k) from by rw [show decide (V.int (its.length : Nat) = V.int (k : Nat)) = decide (its.length = k) from decide_eq_decide.mpr ⟨fun e => Int.ofNat.inj (V.int.inj e), fun e => by rw [e]⟩]]
          by_cases ek : its.length = k
          · rw [decide_eq_true ek]
            exact ifF ⟨rfl, rfl, decide_eq_true ek⟩
          · rw [decide_eq_false ek]
            refine ifT ?_
            have e : itemsB sz k (.call n o b.name its) = false := by show (decide (its.length = k) && _) = false; rw [decide_eq_false ek]; rfl
            exact e ▸ q H1 s1
        · exact absurd ((show valV (svK ss) (Sum.inr b.name) = none from hn).symm.trans h4) (by simp)
      | start n => exact ifF ⟨rfl, rfl, rfl⟩
      | join b n x y => cases b <;> exact ifF ⟨rfl, rfl, rfl⟩
      | whr n o i it => exact ifF ⟨rfl, rfl, rfl⟩
      | take n o its => exact ifF ⟨rfl, rfl, rfl⟩
    · rintro _ H1 ⟨rfl, rfl, e0⟩
      refine ⟨_, rfl, g, rfl, ⟨_, .of hg⟩, fun D hD => ?_⟩
      have hlen := Paired.length hi
      refine lc_tup (K := K) (a := g) (xs := us) (fun i H' => H' D = some (.lst (((st.items.take i).map (itIn ((sz (st.used.headD "")).getD (0, 0, 0)).1)).map V.bl)) ∧ Same H1 H') ⟨upd_same, same_upd hD⟩ (fun i H' _ hp => .of (hp.2 _ _ hg)) (fun i y H' hy hp => ?_) (fun H' hp => ?_)
      · obtain ⟨h1, h2⟩ := hp
        obtain ⟨it, hit, hR⟩ := paired_get hi hy
        have li : i < st.items.length := (List.getElem?_eq_some_iff.mp hit).1
        obtain ⟨o, r, eu, hpo⟩ := st_from (hs1.keeps fun _ _ e => h2 _ _ e) (fun e => by rw [e] at li; exact absurd li (Nat.not_lt_zero _))
        obtain ⟨t, et⟩ := Option.isSome_iff_exists.mp (hu o (by rw [eu]; simp))
        obtain ⟨b, gb, hb⟩ := (hz1.same h2).get et
        have hR' : ItAt H' y it := ItAt.keeps hR fun _ _ e => h2 _ _ e
        have push : ∀ c : Bool, c = itIn ((sz (st.used.headD "")).getD (0, 0, 0)).1 it → (some (HO.lst (((st.items.take i).map (itIn ((sz (st.used.headD "")).getD (0, 0, 0)).1)).map V.bl ++ [V.bl c]))) = some (HO.lst (((st.items.take (i + 1)).map (itIn ((sz (st.used.headD "")).getD (0, 0, 0)).1)).map V.bl)) := fun c e => by
          rw [List.take_succ, hit, List.map_append, List.map_append, e]
          rfl
        have sm : (((st.items.take i).map (itIn ((sz (st.used.headD "")).getD (0, 0, 0)).1)).map V.bl).length < sizeLine := by
          rw [List.length_map, List.length_map, List.length_take]
          exact small1000 (by omega)
        have ew : ((sz (st.used.headD "")).getD (0, 0, 0)).1 = t.1 := by rw [eu]; show ((sz o).getD (0, 0, 0)).1 = t.1; rw [et]; rfl
        cases it with
        | val x =>
          obtain ⟨p', rfl, hp'⟩ := hR'
          refine ⟨rfl, _, rfl, _, _, _, _, _, rfl, .ty _, .base (.tup hp'), kit_ty (show kitB "tuple" "tuple" = some true by decide +kernel), true, rfl, ifT ⟨_, h1, sm, ?_, fun c o e => ?_⟩⟩
          · exact upd_same.trans (push true rfl)
          · rw [upd_ne (ne_of_none e hD)]
            exact h2 _ _ e
        | idx j =>
          obtain rfl : y = .int j := hR'
          refine ⟨rfl, _, rfl, _, _, _, _, _, rfl, .ty _, .base (.int _), kit_ty (show kitB "int" "tuple" = some false by decide +kernel), false, rfl, ifF ?_⟩
          refine ⟨_, rfl, _, rfl, _, rfl, _, _, _, _, rfl, rfl, .of hpo, atI_nat (j := 2) rfl, z, _, rfl, gb, _, _, _, _, rfl, rfl, .of hb, atI_nat (j := 0) rfl, _, _, rfl, rfl, _, h1, sm, ?_, fun c o e => ?_⟩
          · exact upd_same.trans (push _ (by show decide (j < t.1) = decide (j < _); rw [ew]))
          · rw [upd_ne (ne_of_none e hD)]
            exact h2 _ _ e
      · obtain ⟨h1, h2⟩ := hp
        rw [hlen, List.take_length] at h1
        refine ⟨D, _, rfl, .of h1, ?_⟩
        have e : itemsB sz k st = ((st.items.map (itIn ((sz (st.used.headD "")).getD (0, 0, 0)).1))).all id := by unfold itemsB; rw [e0, List.all_map]; rfl
        exact e ▸ q H' (s1.trans h2)
end
/-! ### the size of a step -/
def szOf (sz : Str → Option SzD) (n : Str) : SzD := (sz n).getD (0, 0, 0)
def mx (i j : Int) : Int := if j > i then j else i
theorem same_none {H H' : Hp} {x : Addr} (s : Same H H') (h : H' x = none) : H x = none := by
  cases e : H x with
  | none => rfl
  | some o => rw [s _ _ e] at h; cases h
def sizeOf (sz : Str → Option SzD) (wt : Int) : StD → SzD
  | .start _ => (0, 1, 0)
  | .call _ o _ _ => ((szOf sz o).1 + wt, (szOf sz o).2.1, (szOf sz o).2.2 + 1)
  | .join true _ x y => ((szOf sz x).1, (szOf sz x).2.1 + (szOf sz y).2.1, mx (szOf sz x).2.2 (szOf sz y).2.2)
  | .join false _ x y => ((szOf sz x).1 + (szOf sz y).1, (szOf sz x).2.1 * (szOf sz y).2.1, (szOf sz x).2.2 + (szOf sz y).2.2)
  | .whr _ o _ _ => szOf sz o
  | .take _ o its => (its.length, (szOf sz o).2.1, (szOf sz o).2.2)
/-- the sizes are within their bounds -/
def SzIn (sz : Str → Option SzD) : Prop := ∀ n t, sz n = some t → 0 ≤ t.1 ∧ 1 ≤ t.2.1 ∧ 0 ≤ t.2.2 ∧ t.1 ≤ 12 ∧ t.2.1 ≤ 16 ∧ t.2.2 ≤ 4
section
variable {P : Program} {w : World} {K : PySem.W.Frag} {mg : Str → Option Value} {base : Heap} {a : Nat → Addr} {d : Nat → FuncData}
def spSize (C : Addr) : Sp := fun vs H Q _ => ∃ (sp p z : Addr) (st : StD) (sz : Str → Option SzD) (ts : List (Str × Int)) (ks : List KeyE) (ss : List SvE) (m n : Nat) (wt : Int), vs = [.ref sp, .ref p, .ref z] ∧ SchAt C sp H ts ks ss m n ∧ StAt H p st ∧ SzAt H z sz ∧ SzIn sz ∧ (∀ n ∈ st.used, (sz n).isSome = true) ∧
  (∀ n o s its, st = .call n o s its → ∃ b ∈ ss, b.name = s ∧ (b.tab, wt) ∈ ts) ∧ ∀ g H', H' g = some (.tup (szV (sizeOf sz wt st))) → H g = none → Same H H' → Q (.ref g) H'
theorem ok_size (T : Txt K mg a d) : FnOk P w K mg base CX0 5 (a 28) (d 28) ["schema", "step", "sizes"] (spSize (a 48)) := by
  have G25 : FnOk P w K mg base CX0 1 (a 25) (d 25) ["step"] spUsed := ok_used T
  have G5810 : FnOk P w K mg base (L2.CX P w) 4 (a 5810) (d 5810) ["self", "name"] (spAsk (a 48) (a 3) (fun _ _ ss n => valV (svK ss) (Sum.inr n)) (fun _ _ ss n => valV (svK ss) (Sum.inr n))) := ok_service_of T
  have G5808 : FnOk P w K mg base (L2.CX P w) 4 (a 5808) (d 5808) ["self", "table"] (spAsk (a 48) (a 3) (fun ts _ _ n => valV (tabK ts) (Sum.inr n)) (fun ts _ _ n => valV (tabK ts) (Sum.inr n))) := ok_width_of T
  refine T.F28.ok sc__size (fun vs H Q E h => ?_) (fun cdv A outer s H vs Q E hr h => ?_)
  · obtain ⟨sp, p, z, st, sz, ts, ks, ss, m, n, wt, rfl, _⟩ := h
    rfl
  · obtain ⟨sp, p, z, st, sz, ts, ks, ss, m, n, wt, rfl, hS, hs, hz, hzi, hu, hc, q⟩ := h
    refine ⟨_, (pss_cons (ps_setLc (i := 3) (own := [("name", 7)]) rfl sc__size.nd rfl rfl (sw_true rfl rfl rfl (by decide +kernel)) (pi_tup (pe_call G25 (hr.mono (by decide)) (by rfl) T.g25 T.F25.kp T.b25 .nil pass0 (pa_cons (pv 1) pa_nil))) (blkOk_by (N := ["schema", "step", "sizes", "used", "width", "parts", "calls", "name"]) (sc := defScope s__size) (by decide +kernel)) (fun _ _ _ _ _ => pg_name (i := 7) sc__size.nd rfl (.inl rfl)) (fun _ _ _ _ _ => pts_nil) (fun _ _ _ _ _ => (pe_dget (hu_of hr) (pv 2) (pv 7) (fun _ _ => rfl))))
  (pss_cons (ps_if (pt_cmpR op_eq (pe_ix ix_tup (pv 1) pe_int (fun _ _ => rfl)) pe_str (nomark _))
    (pss_one (ps_ret (pe_tup (pa_cons pe_int (pa_cons pe_int (pa_cons pe_int pa_nil))))))
    pss_nil)
  (pss_cons (ps_asg (pe_ix ix_list (pv 3) pe_int (fun _ _ => rfl)) (pg_tup rfl (pgs_cons (pg_name (i := 4) sc__size.nd rfl (.inl rfl)) (pgs_cons (pg_name (i := 5) sc__size.nd rfl (.inl rfl)) (pgs_cons (pg_name (i := 6) sc__size.nd rfl (.inl rfl)) pgs_nil)))))
  (pss_cons (ps_if (pt_cmpR op_eq (pe_ix ix_tup (pv 1) pe_int (fun _ _ => rfl)) pe_str (nomark _))
    (pss_one (ps_ret (pe_tup (pa_cons (pe_op op_add (pv 4) (pe_meth (pv 0) T.cl_48 T.m_5808 G5808 (hr.mono (by decide)) T.b5808 .nil (passN rfl) (pa_cons (pe_ix ix_tup (pe_meth (pv 0) T.cl_48 T.m_5810 G5810 (hr.mono (by decide)) T.b5810 .nil (passN rfl) (pa_cons (pe_ix ix_tup (pv 1) pe_int (fun _ _ => rfl)) pa_nil)) pe_int (fun _ _ => rfl)) pa_nil))) (pa_cons (pv 5) (pa_cons (pe_op op_add (pv 6) pe_int) pa_nil))))))
    pss_nil)
  (pss_cons (ps_if (pt_cmpR op_eq (pe_ix ix_tup (pv 1) pe_int (fun _ _ => rfl)) pe_str (nomark _))
    (pss_one (ps_ret (pe_tup (pa_cons (pv 4) (pa_cons (pe_op op_add (pv 5) (pe_ix ix_tup (pe_ix ix_list (pv 3) pe_int (fun _ _ => rfl)) pe_int (fun _ _ => rfl))) (pa_cons (pe_callB (id := "max")  (call_max2 rfl) (by rfl) T.z_max (by decide +kernel) (pa_cons (pv 6) (pa_cons (pe_ix ix_tup (pe_ix ix_list (pv 3) pe_int (fun _ _ => rfl)) pe_int (fun _ _ => rfl)) pa_nil))) pa_nil))))))
    pss_nil)
  (pss_cons (ps_if (pt_cmpR op_eq (pe_ix ix_tup (pv 1) pe_int (fun _ _ => rfl)) pe_str (nomark _))
    (pss_one (ps_ret (pe_tup (pa_cons (pe_op op_add (pv 4) (pe_ix ix_tup (pe_ix ix_list (pv 3) pe_int (fun _ _ => rfl)) pe_int (fun _ _ => rfl))) (pa_cons (pe_op op_mul (pv 5) (pe_ix ix_tup (pe_ix ix_list (pv 3) pe_int (fun _ _ => rfl)) pe_int (fun _ _ => rfl))) (pa_cons (pe_op op_add (pv 6) (pe_ix ix_tup (pe_ix ix_list (pv 3) pe_int (fun _ _ => rfl)) pe_int (fun _ _ => rfl))) pa_nil))))))
    pss_nil)
  (pss_cons (ps_if (pt_cmpR op_eq (pe_ix ix_tup (pv 1) pe_int (fun _ _ => rfl)) pe_str (nomark _))
    (pss_one (ps_ret (pe_tup (pa_cons (pe_callB (id := "len")  call_len_seq (by rfl) T.z_len (by decide +kernel) (pa_cons (pe_ix ix_tup (pv 1) pe_int (fun _ _ => rfl)) pa_nil)) (pa_cons (pv 5) (pa_cons (pv 6) pa_nil))))))
    pss_nil)
  (pss_one (ps_ret (pe_tup (pa_cons (pv 4) (pa_cons (pv 5) (pa_cons (pv 6) pa_nil))))))))))))), ?_⟩
    refine ⟨_, rfl, p, st, rfl, hs, fun g H1 hg s1 => ?_⟩
    have hs1 := hs.keeps fun _ _ e => s1 _ _ e
    obtain ⟨kvs, z1, zk⟩ := hz.same s1
    refine ⟨g, rfl, ⟨_, .of hg⟩, fun D hD => ?_⟩
    have l3 := used_len st
    refine lc_tup (K := K) (a := g) (xs := st.used.map V.str) (fun i H' => H' D = some (.lst ((st.used.take i).map fun n => (valV kvs (.inr n)).getD .non)) ∧ Same H1 H') ⟨upd_same, same_upd hD⟩ (fun i H' _ hp => .of (hp.2 _ _ hg)) (fun i y H' hy hp => ?_) (fun H' hp => ?_)
    · obtain ⟨h1, h2⟩ := hp
      obtain ⟨x, hx, rfl⟩ := map_at hy
      have li : i < st.used.length := (List.getElem?_eq_some_iff.mp hx).1
      obtain ⟨t, et⟩ := Option.isSome_iff_exists.mp (hu x (List.mem_of_getElem? hx))
      obtain ⟨b, e1, e2⟩ := (zk x).2 t et
      have gx : DGet H' z (.str x) (some (.ref b)) := e1 ▸ DGet.k (k := .inr x) (h2 _ _ z1)
      refine ⟨rfl, _, rfl, _, rfl, z, _, rfl, gx, _, h1, ?_, ?_, fun c o e => ?_⟩
      · rw [List.length_map, List.length_take]
        exact small1000 (by omega)
      · rw [List.take_succ, hx, List.map_append]
        show upd H' D _ D = some (.lst (_ ++ [(valV kvs (.inr x)).getD .non]))
        rw [e1]
        exact upd_same
      · rw [upd_ne (ne_of_none e hD)]
        exact h2 _ _ e
    · obtain ⟨hD', h2⟩ := hp
      rw [List.length_map, List.take_length] at hD'
      have s2 := s1.trans h2
      have hS2 := hS.same s2
      have hs2 := hs.keeps fun _ _ e => s2 _ _ e
      have z2 : H' z = some (.dK kvs) := h2 _ _ z1
      have zk2 : ∀ x t, sz x = some t → ∃ b, valV kvs (.inr x) = some (.ref b) ∧ H' b = some (.tup (szV t)) := fun x t e => by
        obtain ⟨b, e1, e2⟩ := (zk x).2 t e
        exact ⟨b, e1, h2 _ _ e2⟩
      have fin : ∀ t : SzD, t = sizeOf sz wt st → (3 ≤ sizeLine ∧ ∀ e, H' e = none → Q (.ref e) (upd H' e (.tup (szV t)))) := fun t e => ⟨by show 3 ≤ sizeLine; decide, fun x hx => q x _ (e ▸ upd_same) (same_none s2 hx) (s2.trans (same_upd hx))⟩
      obtain ⟨rest, hp2⟩ := st_name hs2
      cases st with
      | start n =>
        refine ⟨_, rfl, _, _, _, _, rfl, rfl, .of hp2, atI_nat (j := 0) rfl, rfl, _, rfl, ite_d (fun _ => ?_) (fun e => absurd rfl e)⟩
        exact fin _ rfl
      | call n o s' its =>
        obtain ⟨b0, hb0, rfl, hw⟩ := hc n o s' its rfl
        obtain ⟨t, et⟩ := Option.isSome_iff_exists.mp (hu o (by show o ∈ [o]; simp))
        obtain ⟨b, e1, hb⟩ := zk2 o t et
        have eo : szOf sz o = t := by unfold szOf; rw [et]; rfl
        have hD2 : H' D = some (.lst [.ref b]) := by rw [hD']; show some (HO.lst [(valV kvs (.inr o)).getD .non]) = _; rw [e1]; rfl
        obtain ⟨g', us', k1, _⟩ := hs2
        obtain ⟨dx, d1, d2, d3, o1⟩ := hS2
        have sok := o1.hS.ok b0 hb0
        have h4 := val_nodup (sv_nd o1.hS) (Sum.inr b0.name, V.ref b0.at_) (List.mem_map.mpr ⟨b0, hb0, rfl⟩)
        refine ⟨_, rfl, _, _, _, _, rfl, rfl, .of hp2, atI_nat (j := 0) rfl, rfl, _, rfl, ite_d (fun e => absurd (V.str.inj e) (by show ¬ (("call" : Str) = "start"); decide +kernel)) (fun _ => ?_)⟩
        refine ⟨_, rfl, _, _, _, _, rfl, rfl, .of hD2, atI_nat (j := 0) rfl, b, _, rfl, .of hb, rfl, _, _, rfl, _, _, rfl, _, _, rfl, rfl, ?_⟩
        refine ⟨_, rfl, _, _, _, _, rfl, rfl, .of hp2, atI_nat (j := 0) rfl, rfl, _, rfl, ite_d (fun _ => ?_) (fun e => absurd rfl e)⟩
        refine ⟨_, rfl, _, rfl, sp, dx, _, rfl, o1.ob, flds_no _ _ _ (by decide +kernel) (by decide +kernel) (by decide +kernel), _, rfl, sp, dx, _, rfl, o1.ob, flds_no _ _ _ (by decide +kernel) (by decide +kernel) (by decide +kernel), _, rfl, _, _, _, _, rfl, rfl, .of k1, atI_nat (j := 3) rfl, sp, b0.name, ts, ks, ss, m, _, rfl, ⟨dx, d1, d2, d3, o1⟩, fun v hv => ⟨_, hv, ?_⟩, fun hn => ?_⟩
        · have e2 : v = V.ref b0.at_ := Option.some.inj ((show some v = valV (svK ss) (Sum.inr b0.name) from hv.symm).trans h4)
          subst e2
          have h5 := tab_val o1.hT hw
          refine ⟨_, _, _, _, rfl, rfl, .of sok.told.tup, atI_nat (j := 0) rfl, sp, b0.tab, ts, ks, ss, m, _, rfl, ⟨dx, d1, d2, d3, o1⟩, fun v hv => ⟨_, hv, ?_⟩, fun hn => ?_⟩
          · have e3 : v = V.int wt := Option.some.inj ((show some v = valV (tabK ts) (Sum.inr b0.tab) from hv.symm).trans h5)
            subst e3
            refine ⟨_, _, rfl, rfl, _, rfl, _, rfl, _, _, rfl, rfl, ?_⟩
            exact fin (t.1 + wt, t.2.1, t.2.2 + 1) (by show _ = ((szOf sz o).1 + wt, (szOf sz o).2.1, (szOf sz o).2.2 + 1); rw [eo])
          · exact absurd ((show valV (tabK ts) (Sum.inr b0.tab) = none from hn).symm.trans h5) (by simp)
        · exact absurd ((show valV (svK ss) (Sum.inr b0.name) = none from hn).symm.trans h4) (by simp)
      | join bb n x y =>
        obtain ⟨tx, ex⟩ := Option.isSome_iff_exists.mp (hu x (by show x ∈ [x, y]; simp))
        obtain ⟨ty, ey⟩ := Option.isSome_iff_exists.mp (hu y (by show y ∈ [x, y]; simp))
        obtain ⟨bx, e1, hx⟩ := zk2 x tx ex
        obtain ⟨b', e2, hy⟩ := zk2 y ty ey
        have eo : szOf sz x = tx := by unfold szOf; rw [ex]; rfl
        have eo2 : szOf sz y = ty := by unfold szOf; rw [ey]; rfl
        have hD2 : H' D = some (.lst [.ref bx, .ref b']) := by rw [hD']; show some (HO.lst [(valV kvs (.inr x)).getD .non, (valV kvs (.inr y)).getD .non]) = _; rw [e1, e2]; rfl
        refine ⟨_, rfl, _, _, _, _, rfl, rfl, .of hp2, atI_nat (j := 0) rfl, rfl, _, rfl, ite_d (fun e => absurd (V.str.inj e) (by show ¬ ((if bb then "both" else "pair" : Str) = "start"); cases bb <;> decide +kernel)) (fun _ => ?_)⟩
        refine ⟨_, rfl, _, _, _, _, rfl, rfl, .of hD2, atI_nat (j := 0) rfl, bx, _, rfl, .of hx, rfl, _, _, rfl, _, _, rfl, _, _, rfl, rfl, ?_⟩
        refine ⟨_, rfl, _, _, _, _, rfl, rfl, .of hp2, atI_nat (j := 0) rfl, rfl, _, rfl, ite_d (fun e => absurd (V.str.inj e) (by show ¬ ((if bb then "both" else "pair" : Str) = "call"); cases bb <;> decide +kernel)) (fun _ => ?_)⟩
        cases bb with
        | true =>
          refine ⟨_, rfl, _, _, _, _, rfl, rfl, .of hp2, atI_nat (j := 0) rfl, rfl, _, rfl, ite_d (fun _ => ?_) (fun e => absurd rfl e)⟩
          refine ⟨_, rfl, _, rfl, _, rfl, _, _, _, _, rfl, rfl, .of hD2, atI_nat (j := 1) rfl, _, _, _, _, rfl, rfl, .of hy, atI_nat (j := 1) rfl, _, _, rfl, rfl, _, rfl, _, rfl, _, _, _, _, rfl, rfl, .of hD2, atI_nat (j := 1) rfl, _, _, _, _, rfl, rfl, .of hy, atI_nat (j := 2) rfl, _, _, rfl, ?_⟩
          exact fin (tx.1, tx.2.1 + ty.2.1, mx tx.2.2 ty.2.2) (by show _ = ((szOf sz x).1, (szOf sz x).2.1 + (szOf sz y).2.1, mx (szOf sz x).2.2 (szOf sz y).2.2); rw [eo, eo2])
        | false =>
          refine ⟨_, rfl, _, _, _, _, rfl, rfl, .of hp2, atI_nat (j := 0) rfl, rfl, _, rfl, ite_d (fun e => absurd (V.str.inj e) (by show ¬ (("pair" : Str) = "both"); decide +kernel)) (fun _ => ?_)⟩
          refine ⟨_, rfl, _, _, _, _, rfl, rfl, .of hp2, atI_nat (j := 0) rfl, rfl, _, rfl, ite_d (fun _ => ?_) (fun e => absurd rfl e)⟩
          refine ⟨_, rfl, _, rfl, _, _, _, _, rfl, rfl, .of hD2, atI_nat (j := 1) rfl, _, _, _, _, rfl, rfl, .of hy, atI_nat (j := 0) rfl, _, _, rfl, rfl, ?_⟩
          refine ⟨_, rfl, _, rfl, _, _, _, _, rfl, rfl, .of hD2, atI_nat (j := 1) rfl, _, _, _, _, rfl, rfl, .of hy, atI_nat (j := 1) rfl, _, _, rfl, rfl, .inl (by have := hzi x tx ex; omega), ?_⟩
          refine ⟨_, rfl, _, rfl, _, _, _, _, rfl, rfl, .of hD2, atI_nat (j := 1) rfl, _, _, _, _, rfl, rfl, .of hy, atI_nat (j := 2) rfl, _, _, rfl, rfl, ?_⟩
          exact fin (tx.1 + ty.1, tx.2.1 * ty.2.1, tx.2.2 + ty.2.2) (by show _ = ((szOf sz x).1 + (szOf sz y).1, (szOf sz x).2.1 * (szOf sz y).2.1, (szOf sz x).2.2 + (szOf sz y).2.2); rw [eo, eo2])
      | whr n o i it =>
        obtain ⟨t, et⟩ := Option.isSome_iff_exists.mp (hu o (by show o ∈ [o]; simp))
        obtain ⟨b, e1, hb⟩ := zk2 o t et
        have eo : szOf sz o = t := by unfold szOf; rw [et]; rfl
        have hD2 : H' D = some (.lst [.ref b]) := by rw [hD']; show some (HO.lst [(valV kvs (.inr o)).getD .non]) = _; rw [e1]; rfl
        refine ⟨_, rfl, _, _, _, _, rfl, rfl, .of hp2, atI_nat (j := 0) rfl, rfl, _, rfl, ite_d (fun e => absurd (V.str.inj e) (by show ¬ (("where" : Str) = "start"); decide +kernel)) (fun _ => ?_)⟩
        refine ⟨_, rfl, _, _, _, _, rfl, rfl, .of hD2, atI_nat (j := 0) rfl, b, _, rfl, .of hb, rfl, _, _, rfl, _, _, rfl, _, _, rfl, rfl, ?_⟩
        refine ⟨_, rfl, _, _, _, _, rfl, rfl, .of hp2, atI_nat (j := 0) rfl, rfl, _, rfl, ite_d (fun e => absurd (V.str.inj e) (by show ¬ (("where" : Str) = "call"); decide +kernel)) (fun _ => ?_)⟩
        refine ⟨_, rfl, _, _, _, _, rfl, rfl, .of hp2, atI_nat (j := 0) rfl, rfl, _, rfl, ite_d (fun e => absurd (V.str.inj e) (by show ¬ (("where" : Str) = "both"); decide +kernel)) (fun _ => ?_)⟩
        refine ⟨_, rfl, _, _, _, _, rfl, rfl, .of hp2, atI_nat (j := 0) rfl, rfl, _, rfl, ite_d (fun e => absurd (V.str.inj e) (by show ¬ (("where" : Str) = "pair"); decide +kernel)) (fun _ => ?_)⟩
        refine ⟨_, rfl, _, _, _, _, rfl, rfl, .of hp2, atI_nat (j := 0) rfl, rfl, _, rfl, ite_d (fun e => absurd (V.str.inj e) (by show ¬ (("where" : Str) = "take"); decide +kernel)) (fun _ => ?_)⟩
        exact ⟨_, rfl, _, rfl, _, rfl, fin t eo.symm⟩
      | take n o its =>
        obtain ⟨t, et⟩ := Option.isSome_iff_exists.mp (hu o (by show o ∈ [o]; simp))
        obtain ⟨b, e1, hb⟩ := zk2 o t et
        have eo : szOf sz o = t := by unfold szOf; rw [et]; rfl
        have hD2 : H' D = some (.lst [.ref b]) := by rw [hD']; show some (HO.lst [(valV kvs (.inr o)).getD .non]) = _; rw [e1]; rfl
        obtain ⟨g', us', k1, k2, k3⟩ := hs2
        refine ⟨_, rfl, _, _, _, _, rfl, rfl, .of hp2, atI_nat (j := 0) rfl, rfl, _, rfl, ite_d (fun e => absurd (V.str.inj e) (by show ¬ (("take" : Str) = "start"); decide +kernel)) (fun _ => ?_)⟩
        refine ⟨_, rfl, _, _, _, _, rfl, rfl, .of hD2, atI_nat (j := 0) rfl, b, _, rfl, .of hb, rfl, _, _, rfl, _, _, rfl, _, _, rfl, rfl, ?_⟩
        refine ⟨_, rfl, _, _, _, _, rfl, rfl, .of hp2, atI_nat (j := 0) rfl, rfl, _, rfl, ite_d (fun e => absurd (V.str.inj e) (by show ¬ (("take" : Str) = "call"); decide +kernel)) (fun _ => ?_)⟩
        refine ⟨_, rfl, _, _, _, _, rfl, rfl, .of hp2, atI_nat (j := 0) rfl, rfl, _, rfl, ite_d (fun e => absurd (V.str.inj e) (by show ¬ (("take" : Str) = "both"); decide +kernel)) (fun _ => ?_)⟩
        refine ⟨_, rfl, _, _, _, _, rfl, rfl, .of hp2, atI_nat (j := 0) rfl, rfl, _, rfl, ite_d (fun e => absurd (V.str.inj e) (by show ¬ (("take" : Str) = "pair"); decide +kernel)) (fun _ => ?_)⟩
        refine ⟨_, rfl, _, _, _, _, rfl, rfl, .of hp2, atI_nat (j := 0) rfl, rfl, _, rfl, ite_d (fun _ => ?_) (fun e => absurd rfl e)⟩
        refine ⟨_, rfl, _, _, _, _, rfl, rfl, .of k1, atI_nat (j := 3) rfl, _, _, rfl, .inr (.of k2), _, rfl, _, rfl, ?_⟩
        exact fin (us'.length, t.2.1, t.2.2) (by show _ = (((its.length : Nat) : Int), (szOf sz o).2.1, (szOf sz o).2.2); rw [eo, Paired.length k3])
end
/-! ### what is wrong with a step -/
def kOf (ss : List SvE) : StD → Nat
  | .call _ _ s _ => ((svAt ss s).map fun b => b.cols.length).getD 0
  | _ => 0
def wOf (ts : List (Str × Int)) (ss : List SvE) : StD → Int
  | .call _ _ s _ => ((svAt ss s).map fun b => widthAt ts b.tab).getD 0
  | _ => 0
def wrongOf (ts : List (Str × Int)) (ss : List SvE) (sz : Str → Option SzD) (st : StD) : Option Str :=
  if namesB sz ss st = false then some "name" else if itemsB sz (kOf ss st) st = false then some "items" else
  if 12 < (sizeOf sz (wOf ts ss st) st).1 ∨ joinB sz st = false then some "width" else
  if 16 < (sizeOf sz (wOf ts ss st) st).2.1 ∨ 4 < (sizeOf sz (wOf ts ss st) st).2.2 then some "limit" else none
def optS : Option Str → V
  | none => .non
  | some s => .str s
theorem names_used {sz : Str → Option SzD} {ss : List SvE} {st : StD} (h : namesB sz ss st = true) : ∀ n ∈ st.used, (sz n).isSome = true := by
  unfold namesB at h
  rw [Bool.and_eq_true, Bool.and_eq_true] at h
  exact List.all_eq_true.mp h.1.2
theorem names_call {sz : Str → Option SzD} {ss : List SvE} {n o s : Str} {its : List ItD} (h : namesB sz ss (.call n o s its) = true) : ∃ b, svAt ss s = some b := by
  unfold namesB at h
  rw [Bool.and_eq_true, Bool.and_eq_true] at h
  obtain ⟨x, hx, e⟩ := List.any_eq_true.mp h.2
  obtain ⟨b, hb, rfl⟩ := List.mem_map.mp hx
  unfold svAt
  exact Option.isSome_iff_exists.mp (List.find?_isSome.mpr ⟨b, hb, e⟩)
theorem svOk_w {H : Hp} {ts : List (Str × Int)} {ks : List KeyE} {ss : List SvE} {m n : Nat} {wm : Int} (hT : Tabs ts m wm) (hS : Svcs H ts ks ss n) {b : SvE} (hb : b ∈ ss) : (b.tab, widthAt ts b.tab) ∈ ts := by
  obtain ⟨_, ⟨w, hw, _⟩, _⟩ := hS.ok b hb
  rw [widthAt_mem hT.nm.nd hw]
  exact hw
section
variable {P : Program} {w : World} {K : PySem.W.Frag} {mg : Str → Option Value} {base : Heap} {a : Nat → Addr} {d : Nat → FuncData}
def spWrong (C : Addr) : Sp := fun vs H Q _ => ∃ (sp p z : Addr) (st : StD) (sz : Str → Option SzD) (ts : List (Str × Int)) (ks : List KeyE) (ss : List SvE) (m n : Nat), vs = [.ref sp, .ref p, .ref z] ∧ SchAt C sp H ts ks ss m n ∧ StAt H p st ∧ StOk st ∧ SzAt H z sz ∧ SzIn sz ∧ ∀ H', Same H H' → Q (optS (wrongOf ts ss sz st)) H'
theorem ok_wrong (T : Txt K mg a d) (W : TxtW K w a) : FnOk P w K mg base CX0 6 (a 30) (d 30) ["schema", "step", "sizes"] (spWrong (a 48)) := by
  have G24 : FnOk P w K mg base CX0 4 (a 24) (d 24) ["step"] spForm := ok_form T W
  have G26 : FnOk P w K mg base CX0 2 (a 26) (d 26) ["schema", "step", "sizes"] (spHasN (a 48)) := ok_hasn T
  have G27 : FnOk P w K mg base CX0 5 (a 27) (d 27) ["schema", "step", "sizes"] (spHasI (a 48)) := ok_hasi T
  have G28 : FnOk P w K mg base CX0 5 (a 28) (d 28) ["schema", "step", "sizes"] (spSize (a 48)) := ok_size T
  have G29 : FnOk P w K mg base CX0 1 (a 29) (d 29) ["step", "sizes"] spJoin := ok_join T
  refine T.F30.ok sc__wrong_part (fun vs H Q E h => ?_) (fun cdv A outer s H vs Q E hr h => ?_)
  · obtain ⟨sp, p, z, st, sz, ts, ks, ss, m, n, rfl, _⟩ := h
    rfl
  · obtain ⟨sp, p, z, st, sz, ts, ks, ss, m, n, rfl, hS, hs, ho, hz, hzi, q⟩ := h
    obtain ⟨t1, h_MOST_WIDTH_programs⟩ := T.c_MOST_WIDTH_programs
    obtain ⟨t2, h_MOST_PARTS⟩ := T.c_MOST_PARTS
    obtain ⟨t3, h_MOST_CALLS⟩ := T.c_MOST_CALLS
    refine ⟨_, (pss_cons (ps_if (pt_not (pt_val (pe_call G24 (hr.mono (by decide)) (by rfl) T.g24 T.F24.kp T.b24 .nil pass0 (pa_cons (pv 1) pa_nil))))
    (pss_one (ps_ret pe_str))
    pss_nil)
  (pss_cons (ps_if (pt_not (pt_val (pe_call G26 (hr.mono (by decide)) (by rfl) T.g26 T.F26.kp T.b26 .nil pass0 (pa_cons (pv 0) (pa_cons (pv 1) (pa_cons (pv 2) pa_nil))))))
    (pss_one (ps_ret pe_str))
    pss_nil)
  (pss_cons (ps_if (pt_not (pt_val (pe_call G27 (hr.mono (by decide)) (by rfl) T.g27 T.F27.kp T.b27 .nil pass0 (pa_cons (pv 0) (pa_cons (pv 1) (pa_cons (pv 2) pa_nil))))))
    (pss_one (ps_ret pe_str))
    pss_nil)
  (pss_cons (ps_asg (pe_call G28 (hr.mono (by decide)) (by rfl) T.g28 T.F28.kp T.b28 .nil pass0 (pa_cons (pv 0) (pa_cons (pv 1) (pa_cons (pv 2) pa_nil)))) (pg_tup rfl (pgs_cons (pg_name (i := 3) sc__wrong_part.nd rfl (.inl rfl)) (pgs_cons (pg_name (i := 4) sc__wrong_part.nd rfl (.inl rfl)) (pgs_cons (pg_name (i := 5) sc__wrong_part.nd rfl (.inl rfl)) pgs_nil)))))
  (pss_cons (ps_if (PW.pt (pw_or (pt_cmpR op_gt (pv 3) (pe_glob (v := .int (12)) rfl h_MOST_WIDTH_programs ⟨_, rfl⟩) (nomark _)) (pw_or1 (pt_not (pt_val (pe_call G29 (hr.mono (by decide)) (by rfl) T.g29 T.F29.kp T.b29 .nil pass0 (pa_cons (pv 1) (pa_cons (pv 2) pa_nil))))))))
    (pss_one (ps_ret pe_str))
    pss_nil)
  (pss_one (ps_ret (pe_ifExp (PW.pt (pw_or (pt_cmpR op_gt (pv 4) (pe_glob (v := .int (16)) rfl h_MOST_PARTS ⟨_, rfl⟩) (nomark _)) (pw_or1 (pt_cmpR op_gt (pv 5) (pe_glob (v := .int (4)) rfl h_MOST_CALLS ⟨_, rfl⟩) (nomark _))))) pe_str pe_non)))))))), ?_⟩
    refine ⟨_, rfl, p, st, rfl, hs, ho, fun H1 s1 => ⟨true, rfl, ifF ?_⟩⟩
    refine ⟨_, rfl, _, rfl, _, rfl, sp, p, z, st, sz, ts, ks, ss, m, n, rfl, hS.same s1, hs.keeps fun _ _ e => s1 _ _ e, hz.same s1, fun H2 s2 => ⟨_, rfl, ?_⟩⟩
    have s12 := s1.trans s2
    have wr : wrongOf ts ss sz st = wrongOf ts ss sz st := rfl
    unfold wrongOf at q
    cases e1 : namesB sz ss st with
    | false =>
      rw [if_pos e1] at q
      exact ifT (q H2 s12)
    | true =>
      rw [if_neg (by rw [e1]; decide)] at q
      refine ifF ?_
      have hu := names_used e1
      have hS2 := hS.same s12
      obtain ⟨dx, d1, d2, d3, O⟩ := hS2
      have cl : ∀ n o s its, st = .call n o s its → ∃ b ∈ ss, b.name = s ∧ b.cols.length = kOf ss st ∧ (b.tab, wOf ts ss st) ∈ ts := fun n o s its e => by
        subst e
        obtain ⟨b, hb⟩ := names_call e1
        have hm := svAt_mem hb
        refine ⟨b, hm.1, hm.2, ?_, ?_⟩
        · show _ = ((svAt ss s).map fun b => b.cols.length).getD 0
          rw [hb]
          rfl
        · show (b.tab, ((svAt ss s).map fun b => widthAt ts b.tab).getD 0) ∈ ts
          rw [hb]
          exact svOk_w O.hT O.hS hm.1
      refine ⟨_, rfl, _, rfl, _, rfl, sp, p, z, st, sz, ts, ks, ss, m, n, kOf ss st, rfl, hS.same s12, hs.keeps fun _ _ e => s12 _ _ e, hz.same s12, hu, ho.len, fun n o s its e => by obtain ⟨b, h1, h2, h3, _⟩ := cl n o s its e; exact ⟨b, h1, h2, h3⟩, fun H3 s3 => ⟨_, rfl, ?_⟩⟩
      have s13 := s12.trans s3
      cases e2 : itemsB sz (kOf ss st) st with
      | false =>
        rw [if_pos e2] at q
        exact ifT (q H3 s13)
      | true =>
        rw [if_neg (by rw [e2]; decide)] at q
        refine ifF ?_
        refine ⟨_, rfl, _, rfl, _, rfl, sp, p, z, st, sz, ts, ks, ss, m, n, wOf ts ss st, rfl, hS.same s13, hs.keeps fun _ _ e => s13 _ _ e, hz.same s13, hzi, hu, fun n o s its e => by obtain ⟨b, h1, h2, _, h4⟩ := cl n o s its e; exact ⟨b, h1, h2, h4⟩, fun g H4 hg _ s4 => ?_⟩
        have s14 := s13.trans s4
        refine ⟨g, _, rfl, .of hg, rfl, _, _, rfl, _, _, rfl, _, _, rfl, rfl, ?_⟩
        refine ⟨_, rfl, _, _, rfl, rfl, _, rfl, ite_d (fun h1 => ?_) (fun h1 => ?_)⟩
        · rw [if_pos (.inl h1)] at q
          exact q H4 s14
        · refine ⟨_, rfl, _, rfl, p, z, st, sz, rfl, hs.keeps fun _ _ e => s14 _ _ e, hz.same s14, hu, _, rfl, ?_⟩
          cases e3 : joinB sz st with
          | false =>
            rw [if_pos (.inr e3)] at q
            exact ifT (q H4 s14)
          | true =>
            rw [if_neg (by rintro (h | h); exact h1 h; rw [e3] at h; cases h)] at q
            refine ifF ?_
            refine ⟨_, rfl, _, _, rfl, rfl, _, rfl, ite_d (fun h2 => ?_) (fun h2 => ?_)⟩
            · rw [if_pos (.inl h2)] at q
              exact q H4 s14
            · refine ⟨_, rfl, _, _, rfl, rfl, _, rfl, ite_d (fun h3 => ?_) (fun h3 => ?_)⟩
              · rw [if_pos (.inr h3)] at q
                exact q H4 s14
              · rw [if_neg (by rintro (h | h); exact h2 h; exact h3 h)] at q
                exact q H4 s14
theorem ok_ipinit (T : Txt K mg a d) : FnOk P w K mg base CX0 1 (a 1500) (d 1500) ["self", "part", "at"] (spI2 (a 5) "part" "at") := by
  refine T.F1500.ok sc_InvalidProgram___init__ (fun vs H Q E h => ?_) (fun cdv A outer s H vs Q E hr h => ?_)
  · obtain ⟨x, u, v, rfl, _⟩ := h
    rfl
  · obtain ⟨x, u, v, rfl, hx, q⟩ := h
    refine ⟨_, (pss_cons (ps_ost (pv 0) (pv 1))
  (pss_one (ps_ost (pv 0) (pv 2)))), _, rfl, _, rfl, x, _, rfl, T.x_5, T.no_5_part, .inl ⟨hx, fun dx hdx ne => ?_⟩⟩
    have e1 : upd (upd H dx (exd dx [(("part" : Str), u)])) x (exo x (a 5) (some dx)) dx = some (exd dx [(("part" : Str), u)]) := by rw [upd_ne ne]; exact upd_same
    refine ⟨_, rfl, _, rfl, x, _, rfl, T.x_5, T.no_5_at, .inr ⟨dx, _, upd_same, e1, by show 1 ≤ 900; decide, q dx _ hdx ne ?_ upd_same fun b o nb nd e => ?_⟩⟩
    · rw [upd_ne ne.symm]
      exact upd_same
    · rw [upd_ne nd, upd_ne nb, upd_ne nd]
      exact e
end
/-! ### a program, step by step -/
def putS (sz : Str → Option SzD) (n : Str) (t : SzD) : Str → Option SzD := fun x => if x = n then some t else sz x
def runG (ts : List (Str × Int)) (ss : List SvE) : List StD → (Str → Option SzD) → Nat → (Str × Nat) ⊕ (Str → Option SzD)
  | [], sz, _ => .inr sz
  | st :: r, sz, i => match wrongOf ts ss sz st with
    | some u => .inl (u, i)
    | none => runG ts ss r (putS sz st.name (sizeOf sz (wOf ts ss st) st)) (i + 1)
theorem runG_append {ts : List (Str × Int)} {ss : List SvE} {ys : List StD} : ∀ {xs : List StD} {sz sz' : Str → Option SzD} {i : Nat}, runG ts ss xs sz i = .inr sz' → runG ts ss (xs ++ ys) sz i = runG ts ss ys sz' (i + xs.length)
  | [], sz, sz', i, h => by
    cases h
    rfl
  | st :: r, sz, sz', i, h => by
    show (match wrongOf ts ss sz st with | some u => _ | none => runG ts ss (r ++ ys) _ (i + 1)) = _
    have h : (match wrongOf ts ss sz st with | some u => _ | none => runG ts ss r _ (i + 1)) = _ := h
    cases e : wrongOf ts ss sz st with
    | some u => rw [e] at h; cases h
    | none =>
      rw [e] at h
      rw [show i + (st :: r).length = i + 1 + r.length by rw [List.length_cons]; omega]
      exact runG_append h
/-- no relation yet -/
def sz0 : Str → Option SzD := fun _ => none
def fldsP (x l : Addr) (t : SzD) : List (Str × V) := putF "_steps" (.ref l) (putF "call_count" (.int t.2.2) (putF "part_count" (.int t.2.1) (putF "width" (.int t.1) (putF "schema" (.ref x) []))))
theorem fldp_sc (x l : Addr) (t : SzD) : (fldsP x l t).lookup ("schema" : Str) = some (V.ref x) := by
  unfold fldsP
  rw [lookup_putF, if_neg (by decide +kernel), lookup_putF, if_neg (by decide +kernel), lookup_putF, if_neg (by decide +kernel), lookup_putF, if_neg (by decide +kernel), lookup_putF, if_pos rfl]
theorem fldp_w (x l : Addr) (t : SzD) : (fldsP x l t).lookup ("width" : Str) = some (V.int t.1) := by
  unfold fldsP
  rw [lookup_putF, if_neg (by decide +kernel), lookup_putF, if_neg (by decide +kernel), lookup_putF, if_neg (by decide +kernel), lookup_putF, if_pos rfl]
theorem fldp_p (x l : Addr) (t : SzD) : (fldsP x l t).lookup ("part_count" : Str) = some (V.int t.2.1) := by
  unfold fldsP
  rw [lookup_putF, if_neg (by decide +kernel), lookup_putF, if_neg (by decide +kernel), lookup_putF, if_pos rfl]
theorem fldp_c (x l : Addr) (t : SzD) : (fldsP x l t).lookup ("call_count" : Str) = some (V.int t.2.2) := by
  unfold fldsP
  rw [lookup_putF, if_neg (by decide +kernel), lookup_putF, if_pos rfl]
theorem fldp_st (x l : Addr) (t : SzD) : (fldsP x l t).lookup ("_steps" : Str) = some (V.ref l) := by
  unfold fldsP
  rw [lookup_putF, if_pos rfl]
theorem fldp_no (x l : Addr) (t : SzD) {m : Str} (h1 : ¬ m = "_steps") (h2 : ¬ m = "call_count") (h3 : ¬ m = "part_count") (h4 : ¬ m = "width") (h5 : ¬ m = "schema") : (fldsP x l t).lookup m = none := by
  unfold fldsP
  rw [lookup_putF, if_neg h1, lookup_putF, if_neg h2, lookup_putF, if_neg h3, lookup_putF, if_neg h4, lookup_putF, if_neg h5]
  rfl
theorem putF_le (f : Str) (v : V) : ∀ fs : List (Str × V), (putF f v fs).length ≤ fs.length + 1
  | [] => Nat.le_refl _
  | (g, x) :: r => by
    show (if g = f then (g, v) :: r else (g, x) :: putF f v r).length ≤ _
    have := putF_le f v r
    split <;> simp only [List.length_cons] <;> omega
theorem wrong_none {ts : List (Str × Int)} {ss : List SvE} {sz : Str → Option SzD} {st : StD} (h : wrongOf ts ss sz st = none) : namesB sz ss st = true ∧ itemsB sz (kOf ss st) st = true ∧ (sizeOf sz (wOf ts ss st) st).1 ≤ 12 ∧ joinB sz st = true ∧ (sizeOf sz (wOf ts ss st) st).2.1 ≤ 16 ∧ (sizeOf sz (wOf ts ss st) st).2.2 ≤ 4 := by
  unfold wrongOf at h
  cases e1 : namesB sz ss st with
  | false => rw [if_pos e1] at h; cases h
  | true =>
    rw [if_neg (by rw [e1]; decide)] at h
    cases e2 : itemsB sz (kOf ss st) st with
    | false => rw [if_pos e2] at h; cases h
    | true =>
      rw [if_neg (by rw [e2]; decide)] at h
      by_cases e3 : 12 < (sizeOf sz (wOf ts ss st) st).1 ∨ joinB sz st = false
      · rw [if_pos e3] at h; cases h
      · rw [if_neg e3] at h
        by_cases e4 : 16 < (sizeOf sz (wOf ts ss st) st).2.1 ∨ 4 < (sizeOf sz (wOf ts ss st) st).2.2
        · rw [if_pos e4] at h; cases h
        · have j : joinB sz st = true := by
            cases e : joinB sz st with
            | true => rfl
            | false => exact absurd (.inr e) e3
          exact ⟨rfl, rfl, by omega, j, by omega, by omega⟩
/-- 0 or more columns of a call's table -/
def WNn (ts : List (Str × Int)) (ss : List SvE) : Prop := ∀ st, 0 ≤ wOf ts ss st
theorem SzIn.put {ts : List (Str × Int)} {ss : List SvE} {sz : Str → Option SzD} {st : StD} (h : SzIn sz) (hw : WNn ts ss) (e : wrongOf ts ss sz st = none) : SzIn (putS sz st.name (sizeOf sz (wOf ts ss st) st)) := by
  obtain ⟨h1, _, h3, _, h5, h6⟩ := wrong_none e
  have hu := names_used h1
  have gt : ∀ n ∈ st.used, 0 ≤ (szOf sz n).1 ∧ 1 ≤ (szOf sz n).2.1 ∧ 0 ≤ (szOf sz n).2.2 := fun n hn => by
    obtain ⟨t, et⟩ := Option.isSome_iff_exists.mp (hu n hn)
    have := h n t et
    unfold szOf
    rw [et]
    exact ⟨this.1, this.2.1, this.2.2.1⟩
  intro n t et
  have et : (if n = st.name then some (sizeOf sz (wOf ts ss st) st) else sz n) = some t := et
  by_cases en : n = st.name
  · rw [if_pos en] at et
    cases et
    refine ⟨?_, ?_, ?_, h3, h5, h6⟩ <;> cases st with
    | start n => first | exact Int.le_refl _ | decide
    | call n o s its =>
      have g := gt o (by show o ∈ [o]; simp)
      have w := hw (.call n o s its)
      first
      | exact Int.add_nonneg g.1 w
      | exact g.2.1
      | exact Int.add_nonneg g.2.2 (by decide)
    | join b n x y =>
      have gx := gt x (by show x ∈ [x, y]; simp)
      have gy := gt y (by show y ∈ [x, y]; simp)
      cases b with
      | true =>
        first
        | exact gx.1
        | (show 1 ≤ (szOf sz x).2.1 + (szOf sz y).2.1; omega)
        | (show 0 ≤ mx (szOf sz x).2.2 (szOf sz y).2.2; unfold mx; split <;> omega)
      | false =>
        first
        | exact Int.add_nonneg gx.1 gy.1
        | (show 1 ≤ (szOf sz x).2.1 * (szOf sz y).2.1; exact Int.mul_pos (by omega) (by omega))
        | exact Int.add_nonneg gx.2.2 gy.2.2
    | whr n o i it =>
      have g := gt o (by show o ∈ [o]; simp)
      first
      | exact g.1
      | exact g.2.1
      | exact g.2.2
    | take n o its =>
      have g := gt o (by show o ∈ [o]; simp)
      first
      | exact Int.natCast_nonneg _
      | exact g.2.1
      | exact g.2.2
  · rw [if_neg en] at et
    exact h n t et
theorem wnn {H : Hp} {ts : List (Str × Int)} {ks : List KeyE} {ss : List SvE} {m n : Nat} {wm : Int} (hT : Tabs ts m wm) (hS : Svcs H ts ks ss n) : WNn ts ss := fun st => by
  cases st with
  | call n o s its =>
    show 0 ≤ ((svAt ss s).map fun b => widthAt ts b.tab).getD 0
    cases e : svAt ss s with
    | none => exact Int.le_refl _
    | some b =>
      have := (hT.wd _ (svOk_w hT hS (svAt_mem e).1)).1
      show 0 ≤ widthAt ts b.tab
      have h : 1 ≤ widthAt ts b.tab := this
      omega
  | _ => exact Int.le_refl _
abbrev StE := Addr × StD
theorem SzAt.put {H : Hp} {z b : Addr} {sz : Str → Option SzD} {kvs : List (Key × V)} (hz : H z = some (.dK kvs)) (hk : ∀ n, (sz n = none → valV kvs (.inr n) = none) ∧ ∀ t, sz n = some t → ∃ b, valV kvs (.inr n) = some (.ref b) ∧ H b = some (.tup (szV t))) {n : Str} {t : SzD} (hb : H b = some (.tup (szV t))) :
    SzAt (upd H z (.dK (putK kvs (.inr n) (.ref b)))) z (putS sz n t) := by
  have old : ∀ c xs, H c = some (.tup xs) → upd H z (.dK (putK kvs (.inr n) (.ref b))) c = some (.tup xs) := fun c xs e => by
    rw [upd_ne (fun z' => by rw [z', hz] at e; cases e)]
    exact e
  refine ⟨_, upd_same, fun x => ?_⟩
  unfold putS
  by_cases e : x = n
  · subst e
    rw [if_pos rfl]
    refine ⟨(fun h => by cases h), fun t' h => ⟨b, ?_, ?_⟩⟩
    · rw [valV_put, if_pos rfl]
    · cases h
      exact old _ _ hb
  · rw [if_neg e]
    refine ⟨fun h => ?_, fun t' h => ?_⟩
    · rw [valV_put, if_neg (fun h => e (Sum.inr.inj h))]
      exact (hk x).1 h
    · obtain ⟨c, e1, e2⟩ := (hk x).2 t' h
      exact ⟨c, by rw [valV_put, if_neg (fun h => e (Sum.inr.inj h))]; exact e1, old _ _ e2⟩
section
variable {P : Program} {w : World} {K : PySem.W.Frag} {mg : Str → Option Value} {base : Heap} {a : Nat → Addr} {d : Nat → FuncData}
def refsOf (xs : List StE) : List V := xs.map fun b => V.ref b.1
def spPInit (CS CP CE : Addr) : Sp := fun vs H Q E => ∃ (p dx sp l : Addr) (xs : List StE) (ts : List (Str × Int)) (ks : List KeyE) (ss : List SvE) (m n : Nat), vs = [.ref p, .ref sp, .ref l] ∧ H p = some (.ins CP dx []) ∧ SchAt CS sp H ts ks ss m n ∧ H l = some (.lst (refsOf xs)) ∧ (∀ b ∈ xs, StAt H b.1 b.2 ∧ StOk b.2) ∧ 1 ≤ xs.length ∧ xs.length ≤ 12 ∧
  (∀ u i, runG ts ss (xs.map (·.2)) sz0 0 = .inl (u, i) → ∀ H', Same H H' → Er2 CE "part" "at" (.str u) (.int (i : Nat)) H' E) ∧
  (∀ sz st, runG ts ss (xs.map (·.2)) sz0 0 = .inr sz → (xs.map (·.2)).getLast? = some st → ∀ H' l', H' p = some (.ins CP dx (fldsP sp l' (szOf sz st.name))) → H' l' = some (.lst (refsOf xs)) → H l' = none → l' ≠ p → (∀ b o, b ≠ p → H b = some o → H' b = some o) → Q .non H')
theorem last_name {ts : List (Str × Int)} {ss : List SvE} : ∀ {xs : List StD} {sz sz' : Str → Option SzD} {i : Nat}, runG ts ss xs sz i = .inr sz' → (∀ n t, sz n = some t → (sz' n).isSome = true) ∧ ∀ st ∈ xs, (sz' st.name).isSome = true
  | [], sz, sz', i, h => by
    cases h
    exact ⟨fun n t e => by rw [e]; rfl, fun st h => by cases h⟩
  | st :: r, sz, sz', i, h => by
    have h : (match wrongOf ts ss sz st with | some u => _ | none => runG ts ss r _ (i + 1)) = _ := h
    cases e : wrongOf ts ss sz st with
    | some u => rw [e] at h; cases h
    | none =>
      rw [e] at h
      obtain ⟨h1, h2⟩ := last_name h
      have hp : ∀ x, putS sz st.name (sizeOf sz (wOf ts ss st) st) x = if x = st.name then some (sizeOf sz (wOf ts ss st) st) else sz x := fun x => rfl
      refine ⟨fun n t en => ?_, fun s hs => ?_⟩
      · by_cases e' : n = st.name
        · exact h1 n _ (by rw [hp, if_pos e'])
        · exact h1 n t (by rw [hp, if_neg e']; exact en)
      · rcases List.mem_cons.mp hs with rfl | hs
        · exact h1 s.name _ (by rw [hp, if_pos rfl])
        · exact h2 s hs
theorem ok_pinit (T : Txt K mg a d) (W : TxtW K w a) : FnOk P w K mg base (L2.CX P w) 7 (a 4100) (d 4100) ["self", "schema", "steps"] (spPInit (a 48) (a 31) (a 5)) := by
  have G30 : FnOk P w K mg base CX0 6 (a 30) (d 30) ["schema", "step", "sizes"] (spWrong (a 48)) := ok_wrong T W
  have G28 : FnOk P w K mg base CX0 5 (a 28) (d 28) ["schema", "step", "sizes"] (spSize (a 48)) := ok_size T
  have G1500 : FnOk P w K mg base CX0 1 (a 1500) (d 1500) ["self", "part", "at"] (spI2 (a 5) "part" "at") := ok_ipinit T
  refine T.F4100.okX sc_Program___init__ (fun vs H Q E h => ?_) (fun cdv A outer s H vs Q E hr h => ?_)
  · obtain ⟨p, dx, sp, l, xs, ts, ks, ss, m, n, rfl, _⟩ := h
    rfl
  · obtain ⟨p, dx, sp, l, xs, ts, ks, ss, m, n, rfl, hp, hS, hl, hx, x1, x12, q1, q2⟩ := h
    obtain ⟨t1, h_MOST_STEPS⟩ := T.c_MOST_STEPS
    refine ⟨_, (pss_cons (ps_if (pt_not (pt_chain op_le op_le pe_int (pe_callB (id := "len")  call_len_seq (by rfl) T.z_len (by decide +kernel) (pa_cons (pv 2) pa_nil)) (pe_glob (v := .int (12)) rfl h_MOST_STEPS ⟨_, rfl⟩)))
    (pss_one (ps_raise rfl (takes_of rfl rfl rfl rfl) (pmk_oex T.x_5 T.in_5 T.ti_5 G1500 (hr.mono (by decide)) T.b1500 .nil pass0 (by rfl) T.cg_5 (pa_cons pe_str (pa_cons pe_non pa_nil)))))
    pss_nil)
  (pss_cons (ps_set (i := 3) sc_Program___init__.nd rfl (.inl rfl) pe_dnewK)
  (pss_cons (ps_for (passes_of rfl) rfl (pi_enum (by rfl) T.z_enumerate (pa_cons (pv 2) pa_nil)) (pg_tup rfl (pgs_cons (pg_name (i := 4) sc_Program___init__.nd rfl (.inl rfl)) (pgs_cons (pg_name (i := 5) sc_Program___init__.nd rfl (.inl rfl)) pgs_nil)))
    (pss_cons (ps_set (i := 6) sc_Program___init__.nd rfl (.inl rfl) (pe_call G30 (hr.mono (by decide)) (by rfl) T.g30 T.F30.kp T.b30 .nil pass0 (pa_cons (pv 1) (pa_cons (pv 5) (pa_cons (pv 3) pa_nil)))))
      (pss_cons (ps_if (pt_cmpR op_notN (pv 6) pe_non (nomark _))
        (pss_one (ps_raise rfl (takes_of rfl rfl rfl rfl) (pmk_oex T.x_5 T.in_5 T.ti_5 G1500 (hr.mono (by decide)) T.b1500 .nil pass0 (by rfl) T.cg_5 (pa_cons (pv 6) (pa_cons (pv 4) pa_nil)))))
        pss_nil)
      (pss_one (ps_dput (hu_of hr) (pv 3) (pe_ix ix_tup (pv 5) pe_int (fun _ _ => rfl)) (pe_call G28 (hr.mono (by decide)) (by rfl) T.g28 T.F28.kp T.b28 .nil pass0 (pa_cons (pv 1) (pa_cons (pv 5) (pa_cons (pv 3) pa_nil)))) rfl)))))
  (pss_cons (ps_fld (pv 0) (pv 1) rfl)
  (pss_cons (ps_asg (pe_dget (hu_of hr) (pv 3) (pe_ix ix_tup (pe_ix ix_list (pv 2) (pe_un un_neg pe_int) (fun _ _ => rfl)) pe_int (fun _ _ => rfl)) (fun _ _ => rfl)) (pg_tup rfl (pgs_cons (pg_fld (pv 0)) (pgs_cons (pg_fld (pv 0)) (pgs_cons (pg_fld (pv 0)) pgs_nil)))))
  (pss_one (ps_fld (pv 0) (pe_callTy (T := "list")  call_list_of (by rfl) T.z_list (by decide +kernel) (pa_cons (pv 2) pa_nil)) rfl))))))), ?_⟩
    have ll : (refsOf xs).length = xs.length := List.length_map ..
    refine ⟨_, rfl, _, _, rfl, .inl (.of hl), _, _, rfl, rfl, _, rfl, ite_d (fun _ => ?_) (fun z => absurd (show (1 : Int) ≤ ((refsOf xs).length : Int) by omega) z)⟩
    refine ⟨_, _, rfl, rfl, _, rfl, ?_⟩
    show if (!decide (((refsOf xs).length : Int) ≤ 12)) = true then _ else _
    rw [decide_eq_true (show ((refsOf xs).length : Int) ≤ 12 by omega)]
    refine ifF ?_
    intro z hz
    have s0 := same_upd (o := .dK []) hz
    refine ⟨_, rfl, l, _, rfl, .of (s0 _ _ hl), ?_⟩
    refine for_it (walk_enum (K := K) (a := l) (xs := refsOf xs)) (fun i σ H' => ∃ (sz : Str → Option SzD) (kvs : List (Key × V)) (y4 y5 y6 : Option V), σ = [some (.ref p), some (.ref sp), some (.ref l), some (.ref z), y4, y5, y6] ∧ runG ts ss ((xs.take i).map (·.2)) sz0 0 = .inr sz ∧ SzIn sz ∧ H' z = some (.dK kvs) ∧ kvs.length ≤ i ∧ (∀ n, (sz n = none → valV kvs (.inr n) = none) ∧ ∀ t, sz n = some t → ∃ b, valV kvs (.inr n) = some (.ref b) ∧ H' b = some (.tup (szV t))) ∧ Same H H')
      ⟨sz0, [], none, none, none, rfl, rfl, (fun n t e => by cases e), upd_same, Nat.le_refl _, fun n => ⟨fun _ => rfl, fun t e => by cases e⟩, s0⟩ (fun i σ H' _ hp => ?_) (fun i v σ H' H'' hi hp hy => ?_) (fun σ H' hp => ?_)
    · obtain ⟨sz, kvs, y4, y5, y6, rfl, _, _, _, _, _, s⟩ := hp
      exact .of (s _ _ hl)
    · obtain ⟨sz, kvs, y4, y5, y6, rfl, hrun, hzi, hzd, hkl, hzk, s⟩ := hp
      obtain ⟨T', u1, u2, rfl, hT', rfl, hu1, hu2⟩ := hy
      cases hu1
      obtain ⟨b, hb, rfl⟩ := map_at hu2
      have sT := same_upd (o := .tup [.int ((i : Nat) : Int), .ref b.1]) hT'
      have s4 := s.trans sT
      obtain ⟨hst, hok⟩ := hx b (List.mem_of_getElem? hb)
      have hzA : SzAt (upd H' T' (.tup [.int ((i : Nat) : Int), .ref b.1])) z sz := SzAt.same ⟨kvs, hzd, hzk⟩ sT
      refine ⟨T', _, rfl, .of upd_same, rfl, _, _, rfl, _, _, rfl, rfl, ?_⟩
      refine ⟨_, rfl, _, rfl, _, rfl, sp, b.1, z, b.2, sz, ts, ks, ss, m, n, rfl, hS.same s4, hst.keeps fun _ _ e => s4 _ _ e, hok, hzA, hzi, fun H5 s5 => ?_⟩
      have s45 := s4.trans s5
      have split : xs.map (·.2) = (xs.take i).map (·.2) ++ b.2 :: (xs.drop (i + 1)).map (·.2) := by
        have li : i < xs.length := (List.getElem?_eq_some_iff.mp hb).1
        have e0 : xs = xs.take i ++ b :: xs.drop (i + 1) := by
          have := List.take_append_drop i xs
          rw [List.drop_eq_getElem_cons li, (List.getElem?_eq_some_iff.mp hb).2] at this
          exact this.symm
        exact (congrArg (List.map (·.2)) e0).trans (List.map_append ..)
      have hlen : ((xs.take i).map (·.2)).length = i := by
        rw [List.length_map, List.length_take]
        have li : i < xs.length := (List.getElem?_eq_some_iff.mp hb).1
        omega
      refine ⟨_, rfl, rfl, ?_⟩
      cases ew : wrongOf ts ss sz b.2 with
      | some u =>
        refine ⟨_, rfl, ite_nd (fun _ => ?_) (fun e => nomatch e)⟩
        refine ⟨_, rfl, _, rfl, er2_raise (q1 u i ?_ H5 s45)⟩
        rw [split, runG_append hrun, hlen, Nat.zero_add]
        show (match wrongOf ts ss sz b.2 with | some u => _ | none => _) = _
        rw [ew]
      | none =>
        refine ⟨_, rfl, ite_nd (fun e => absurd rfl e) (fun _ => ?_)⟩
        have e1 : namesB sz ss b.2 = true := (wrong_none ew).1
        obtain ⟨dx', d1, d2, d3, O⟩ := hS
        obtain ⟨rest, hb5⟩ := st_name (hst.keeps fun _ _ e => s45 _ _ e)
        refine ⟨_, rfl, _, rfl, _, rfl, sp, b.1, z, b.2, sz, ts, ks, ss, m, n, wOf ts ss b.2, rfl, ⟨dx', d1, d2, d3, O.same s45⟩, hst.keeps fun _ _ e => s45 _ _ e, hzA.same s5, hzi, names_used e1, fun n o s' its e => ?_, fun g H6 hg _ s6 => ?_⟩
        · rw [e] at e1 ⊢
          obtain ⟨b', hb'⟩ := names_call e1
          have hm := svAt_mem hb'
          refine ⟨b', hm.1, hm.2, ?_⟩
          show (b'.tab, ((svAt ss s').map fun b => widthAt ts b.tab).getD 0) ∈ ts
          rw [hb']
          exact svOk_w O.hT O.hS hm.1
        · have s46 := s45.trans s6
          have z6 : H6 z = some (.dK kvs) := s6 _ _ (s5 _ _ (sT _ _ hzd))
          have hzk6 : ∀ n, (sz n = none → valV kvs (.inr n) = none) ∧ ∀ t, sz n = some t → ∃ b, valV kvs (.inr n) = some (.ref b) ∧ H6 b = some (.tup (szV t)) := fun n => ⟨(hzk n).1, fun t e => by
            obtain ⟨c, e1, e2⟩ := (hzk n).2 t e
            exact ⟨c, e1, s6 _ _ (s5 _ _ (sT _ _ e2))⟩⟩
          obtain ⟨kv2, zz, hk2⟩ := SzAt.put z6 hzk6 (n := b.2.name) hg
          rw [upd_same] at zz
          cases zz
          refine ⟨_, rfl, _, rfl, _, _, _, _, rfl, rfl, .of (s6 _ _ hb5), atI_nat (j := 1) rfl, z, _, rfl, DPut.k (k := Sum.inr b.2.name) z6 (Nat.lt_of_le_of_lt (by omega : _ ≤ 12) (by decide)), putS sz b.2.name (sizeOf sz (wOf ts ss b.2) b.2), _, _, _, _, rfl, ?_, hzi.put (wnn O.hT O.hS) ew, upd_same, ?_, hk2, same_mut s46 hz⟩
          · rw [take_snoc hb, List.map_append, runG_append hrun, hlen, Nat.zero_add]
            show (match wrongOf ts ss sz b.2 with | some u => _ | none => _) = _
            rw [ew]
            rfl
          · exact Nat.le_trans (length_putK _ _ _) (Nat.succ_le_succ hkl)
    · obtain ⟨sz, kvs, y4, y5, y6, rfl, hrun, hzi, hzd, hkl, hzk, s⟩ := hp
      rw [ll, List.take_length] at hrun
      obtain ⟨ys, y, rfl⟩ : ∃ ys y, xs = ys ++ [y] := by
        refine ⟨xs.dropLast, xs.getLast (fun e => by rw [e] at x1; exact absurd x1 (by decide)), ?_⟩
        exact (List.dropLast_concat_getLast _).symm
      have nzp : p ≠ z := ne_of_none hp hz
      have hy := hx y (by simp)
      obtain ⟨tl, etl⟩ := Option.isSome_iff_exists.mp ((last_name hrun).2 y.2 (by simp))
      obtain ⟨bt, v1, v2⟩ := (hzk y.2.name).2 tl etl
      have esz : szOf sz y.2.name = tl := by unfold szOf; rw [etl]; rfl
      obtain ⟨rest, hy1⟩ := st_name (hy.1.keeps fun _ _ e => s _ _ e)
      have hp1 := s _ _ hp
      refine ⟨_, rfl, _, rfl, p, _, dx, _, rfl, hp1, T.cl_31, T.no_31_schema, by show 0 < 1000; decide, ?_⟩
      generalize hH2 : upd H' p _ = H2
      have hp2 : H2 p = some (.ins (a 31) dx (putF "schema" (.ref sp) [])) := by rw [← hH2]; exact upd_same
      have o2 : ∀ b o, b ≠ p → H' b = some o → H2 b = some o := fun b o n e => by rw [← hH2, upd_ne n]; exact e
      have nlp : l ≠ p := ne_of hl hp (by intro z; cases z)
      have nby : y.1 ≠ p := ne_of hy1 hp1 (by intro z; cases z)
      have nbt : bt ≠ p := ne_of v2 hp1 (by intro z; cases z)
      have l2 : H2 l = some (.lst (refsOf ys ++ [.ref y.1])) := by
        have := o2 l _ nlp (s _ _ hl)
        unfold refsOf at this ⊢
        rw [List.map_append] at this
        exact this
      have gz : DGet H2 z (.str y.2.name) (some (.ref bt)) := v1 ▸ DGet.k (k := .inr y.2.name) (o2 z _ nzp.symm hzd)
      refine ⟨_, rfl, _, rfl, _, rfl, _, _, _, _, rfl, rfl, .of l2, atI_last _ _, _, _, _, _, rfl, rfl, .of (o2 _ _ nby hy1), atI_nat (j := 1) rfl, z, _, rfl, gz, bt, _, rfl, .of (o2 _ _ nbt v2), rfl, ?_⟩
      refine ⟨_, _, rfl, _, rfl, p, _, dx, _, rfl, hp2, T.cl_31, T.no_31_width, by show 1 < 1000; decide, ?_⟩
      refine ⟨_, _, rfl, _, rfl, p, _, dx, _, rfl, upd_same, T.cl_31, T.no_31_part_count, ?_, ?_⟩
      · have := putF_le "width" (.int tl.1) (putF "schema" (.ref sp) [])
        exact Nat.lt_of_le_of_lt this (by show 1 + 1 < 1000; decide)
      refine ⟨_, _, rfl, _, rfl, p, _, dx, _, rfl, upd_same, T.cl_31, T.no_31_call_count, ?_, rfl, ?_⟩
      · have h1 := putF_le "width" (.int tl.1) (putF "schema" (.ref sp) [])
        have h2 := putF_le "part_count" (.int tl.2.1) (putF "width" (.int tl.1) (putF "schema" (.ref sp) []))
        have h3 : (putF "schema" (V.ref sp) []).length = 1 := rfl
        show _ < 1000
        omega
      generalize hH3 : upd (upd (upd H2 p _) p _) p _ = H3
      have hp3 : H3 p = some (.ins (a 31) dx (putF "call_count" (.int tl.2.2) (putF "part_count" (.int tl.2.1) (putF "width" (.int tl.1) (putF "schema" (.ref sp) []))))) := by rw [← hH3]; exact upd_same
      have o3 : ∀ b o, b ≠ p → H2 b = some o → H3 b = some o := fun b o n e => by rw [← hH3, upd_ne n, upd_ne n, upd_ne n]; exact e
      refine ⟨_, rfl, l, _, rfl, .inl (.of (o3 _ _ nlp l2)), fun l' hl' => ?_⟩
      have nl' : l' ≠ p := fun e => by rw [e, hp3] at hl'; cases hl'
      have s3 := same_upd (o := .lst (refsOf ys ++ [.ref y.1])) hl'
      refine ⟨_, rfl, p, _, dx, _, rfl, s3 _ _ hp3, T.cl_31, T.no_31__steps, ?_, ?_⟩
      · have h1 := putF_le "width" (.int tl.1) (putF "schema" (.ref sp) [])
        have h2 := putF_le "part_count" (.int tl.2.1) (putF "width" (.int tl.1) (putF "schema" (.ref sp) []))
        have h4 := putF_le "call_count" (.int tl.2.2) (putF "part_count" (.int tl.2.1) (putF "width" (.int tl.1) (putF "schema" (.ref sp) [])))
        have h3 : (putF "schema" (V.ref sp) []).length = 1 := rfl
        show _ < 1000
        omega
      have hfree : H l' = none := by
        cases e : H l' with
        | none => rfl
        | some o => rw [o3 l' o nl' (o2 l' o nl' (s _ _ e))] at hl'; cases hl'
      refine q2 sz y.2 hrun (by rw [List.map_append]; exact List.getLast?_concat ..) _ l' ?_ ?_ hfree nl' (fun b o n e => ?_)
      · rw [esz]
        exact upd_same
      · rw [upd_ne nl', upd_same]
        unfold refsOf
        rw [List.map_append]
        rfl
      · rw [upd_ne n]
        exact s3 _ _ (o3 _ _ n (o2 _ _ n (s _ _ e)))
end
/-! ### a program on the heap -/
structure PrO (CS CP p dx sp l : Addr) (H : Hp) (ts : List (Str × Int)) (ks : List KeyE) (ss : List SvE) (m n : Nat) (xs : List StE) (t : SzD) : Prop where
  ob : H p = some (.ins CP dx (fldsP sp l t))
  sch : SchAt CS sp H ts ks ss m n
  ls : H l = some (.lst (refsOf xs))
  st : ∀ b ∈ xs, StAt H b.1 b.2 ∧ StOk b.2
  l1 : 1 ≤ xs.length
  l12 : xs.length ≤ 12
theorem PrO.same {CS CP p dx sp l : Addr} {H H' : Hp} {ts : List (Str × Int)} {ks : List KeyE} {ss : List SvE} {m n : Nat} {xs : List StE} {t : SzD} (h : PrO CS CP p dx sp l H ts ks ss m n xs t) (s : Same H H') : PrO CS CP p dx sp l H' ts ks ss m n xs t :=
  ⟨s _ _ h.ob, h.sch.same s, s _ _ h.ls, fun b hb => ⟨(h.st b hb).1.keeps fun _ _ e => s _ _ e, (h.st b hb).2⟩, h.l1, h.l12⟩
/-! ### the steps as data -/
def itD : ItD → PyData
  | .val k => .tuple [keyD k]
  | .idx i => .int i
def stD : StD → PyData
  | .start n => .tuple [.str "start", .str n]
  | .call n o s its => .tuple [.str "call", .str n, .str o, .str s, .tuple (its.map itD)]
  | .join b n x y => .tuple [.str (if b then "both" else "pair"), .str n, .str x, .str y]
  | .whr n o i it => .tuple [.str "where", .str n, .str o, .int i, itD it]
  | .take n o its => .tuple [.str "take", .str n, .str o, .tuple (its.map itD)]
theorem dp_it {K : PySem.W.Frag} {H : Hp} {v : V} {it : ItD} (h : ItAt H v it) : Dp K H v (itD it) := by
  cases it with
  | val k => obtain ⟨p, rfl, hp⟩ := h; exact .tup (.of hp) (.cons (dp_key k) .nil)
  | idx i => obtain rfl := (show v = .int i from h); exact .int i
theorem dp_its {K : PySem.W.Frag} {H : Hp} : ∀ {vs : List V} {its : List ItD}, ItsAt H vs its → DpAll K H vs (its.map itD)
  | _, _, .nil => .nil
  | _, _, .cons h t => .cons (dp_it h) (dp_its t)
theorem dp_st {K : PySem.W.Frag} {H : Hp} {p : Addr} {st : StD} (h : StAt H p st) : Dp K H (.ref p) (stD st) := by
  cases st with
  | start n => exact .tup (.of h) (.cons (.str _) (.cons (.str _) .nil))
  | call n o s its => obtain ⟨g, vs, h1, h2, h3⟩ := h; exact .tup (.of h1) (.cons (.str _) (.cons (.str _) (.cons (.str _) (.cons (.str _) (.cons (.tup (.of h2) (dp_its h3)) .nil)))))
  | join b n x y => exact .tup (.of (show H p = some (.tup [.str (if b then "both" else "pair"), .str n, .str x, .str y]) from h)) (.cons (.str _) (.cons (.str _) (.cons (.str _) (.cons (.str _) .nil))))
  | whr n o i it => obtain ⟨v, h1, h2⟩ := h; exact .tup (.of h1) (.cons (.str _) (.cons (.str _) (.cons (.str _) (.cons (.int _) (.cons (dp_it h2) .nil)))))
  | take n o its => obtain ⟨g, vs, h1, h2, h3⟩ := h; exact .tup (.of h1) (.cons (.str _) (.cons (.str _) (.cons (.str _) (.cons (.tup (.of h2) (dp_its h3)) .nil))))
theorem dp_sts {K : PySem.W.Frag} {H : Hp} : ∀ {xs : List StE}, (∀ b ∈ xs, StAt H b.1 b.2 ∧ StOk b.2) → DpAll K H (refsOf xs) (xs.map fun b => stD b.2)
  | [], _ => .nil
  | b :: r, h => .cons (dp_st (h b (by simp)).1) (dp_sts fun c hc => h c (by simp [hc]))
theorem lay_it {it : ItD} (h : ItOk it) : (itD it).canLay0 = true ∧ (itD it).depth ≤ 1 := by
  cases it with
  | val k =>
    have h := lay_keys (r := [k]) (fun j hj => by rw [List.mem_singleton.mp hj]; exact KVal.ok h)
    refine ⟨h.1, ?_⟩
    show PyData.depthAll ([k].map keyD) + 1 ≤ 1
    rw [h.2]
    exact Nat.le_refl _
  | idx i => exact ⟨rfl, by show 0 ≤ 1; decide⟩
theorem lay_its : ∀ {its : List ItD}, (∀ it ∈ its, ItOk it) → PyData.canLayAll0 (its.map itD) = true ∧ PyData.depthAll (its.map itD) ≤ 1
  | [], _ => ⟨rfl, Nat.zero_le _⟩
  | x :: r, h => by
    obtain ⟨h1, h2⟩ := lay_it (h x (by simp))
    obtain ⟨h3, h4⟩ := lay_its (its := r) fun y hy => h y (by simp [hy])
    refine ⟨?_, ?_⟩
    · show ((itD x).canLay0 && PyData.canLayAll0 (r.map itD)) = true
      rw [h1, h3]
      rfl
    · show max (itD x).depth (PyData.depthAll (r.map itD)) ≤ 1
      omega
theorem lay_st {st : StD} (h : StOk st) : (stD st).canLay0 = true ∧ (stD st).depth ≤ 3 := by
  have k1 : PyData.strOk ("start" : Str) = true := by decide +kernel
  have k2 : PyData.strOk ("call" : Str) = true := by decide +kernel
  have k3 : PyData.strOk ("both" : Str) = true := by decide +kernel
  have k4 : PyData.strOk ("pair" : Str) = true := by decide +kernel
  have k5 : PyData.strOk ("where" : Str) = true := by decide +kernel
  have k6 : PyData.strOk ("take" : Str) = true := by decide +kernel
  cases st with
  | start n =>
    have e1 := wd_strOk (h.ns n (by simp [StD.ns]))
    constructor
    · simp only [stD, PyData.canLay0, PyData.canLayAll0, k1, e1, Bool.and_self]
    · simp [stD, PyData.depth, PyData.depthAll]
  | call n o s its =>
    have e1 := wd_strOk (h.ns n (by simp [StD.ns]))
    have e2 := wd_strOk (h.ns o (by simp [StD.ns]))
    have e3 := wd_strOk (h.ns s (by simp [StD.ns]))
    obtain ⟨l1, l2⟩ := lay_its (its := its) h.its
    constructor
    · simp only [stD, PyData.canLay0, PyData.canLayAll0, k2, e1, e2, e3, l1, Bool.and_self]
    · simp only [stD, PyData.depth, PyData.depthAll]
      omega
  | join b n x y =>
    have e1 := wd_strOk (h.ns n (by simp [StD.ns]))
    have e2 := wd_strOk (h.ns x (by simp [StD.ns]))
    have e3 := wd_strOk (h.ns y (by simp [StD.ns]))
    constructor
    · cases b <;> simp [stD, PyData.canLay0, PyData.canLayAll0, k3, k4, e1, e2, e3]
    · simp [stD, PyData.depth, PyData.depthAll]
  | whr n o i it =>
    have e1 := wd_strOk (h.ns n (by simp [StD.ns]))
    have e2 := wd_strOk (h.ns o (by simp [StD.ns]))
    obtain ⟨l1, l2⟩ := lay_it (h.its it (by simp [StD.items]))
    constructor
    · simp only [stD, PyData.canLay0, PyData.canLayAll0, k5, e1, e2, l1, Bool.and_self]
    · simp only [stD, PyData.depth, PyData.depthAll]
      omega
  | take n o its =>
    have e1 := wd_strOk (h.ns n (by simp [StD.ns]))
    have e2 := wd_strOk (h.ns o (by simp [StD.ns]))
    obtain ⟨l1, l2⟩ := lay_its (its := its) h.its
    constructor
    · simp only [stD, PyData.canLay0, PyData.canLayAll0, k6, e1, e2, l1, Bool.and_self]
    · simp only [stD, PyData.depth, PyData.depthAll]
      omega
theorem lay_sts : ∀ {xs : List StE}, (∀ b ∈ xs, StOk b.2) → PyData.canLayAll0 (xs.map fun b => stD b.2) = true ∧ PyData.depthAll (xs.map fun b => stD b.2) ≤ 3
  | [], _ => ⟨rfl, Nat.zero_le _⟩
  | x :: r, h => by
    obtain ⟨h1, h2⟩ := lay_st (h x (by simp))
    obtain ⟨h3, h4⟩ := lay_sts (xs := r) fun y hy => h y (by simp [hy])
    refine ⟨?_, ?_⟩
    · show ((stD x.2).canLay0 && PyData.canLayAll0 (r.map fun b => stD b.2)) = true
      rw [h1, h3]
      rfl
    · show max (stD x.2).depth (PyData.depthAll (r.map fun b => stD b.2)) ≤ 3
      omega
def stsD (xs : List StE) : PyData := .list (xs.map fun b => stD b.2)
theorem sts_shaped {xs : List StE} (h : ∀ b ∈ xs, StOk b.2) : SeqAt.shaped (stsD xs) = true := by
  obtain ⟨h1, h2⟩ := lay_sts h
  unfold SeqAt.shaped
  rw [Bool.and_eq_true]
  refine ⟨h1, decide_eq_true ?_⟩
  show PyData.depthAll (xs.map fun b => stD b.2) + 1 ≤ 64
  omega
section
variable {P : Program} {w : World} {K : PySem.W.Frag} {mg : Str → Option Value} {base : Heap} {a : Nat → Addr} {d : Nat → FuncData}
def spPEq (CS CP : Addr) : Sp := fun vs H Q _ => ∃ (p q dx dy sp sq l l' : Addr) (ts : List (Str × Int)) (ks : List KeyE) (ss : List SvE) (m n : Nat) (ts' : List (Str × Int)) (ks' : List KeyE) (ss' : List SvE) (m' n' : Nat) (xs ys : List StE) (t t' : SzD), vs = [.ref p, .ref q] ∧ PrO CS CP p dx sp l H ts ks ss m n xs t ∧ PrO CS CP q dy sq l' H ts' ks' ss' m' n' ys t' ∧
  Q (.bl (schB ts ks ss ts' ks' ss' && PyData.eqv (stsD xs) (stsD ys))) H
theorem ok_peq (T : Txt K mg a d) : FnOk P w K mg base CX0 2 (a 4101) (d 4101) ["self", "other"] (spPEq (a 48) (a 31)) := by
  have G5804 : FnOk P w K mg base CX0 1 (a 5804) (d 5804) ["self", "other"] (spSEq (a 48)) := ok_seq T
  refine T.F4101.ok sc_Program___eq__ (fun vs H Q E h => ?_) (fun cdv A outer s H vs Q E hr h => ?_)
  · obtain ⟨p, q, dx, dy, sp, sq, l, l', ts, ks, ss, m, n, ts', ks', ss', m', n', xs, ys, t, t', rfl, _⟩ := h
    rfl
  · obtain ⟨p, q, dx, dy, sp, sq, l, l', ts, ks, ss, m, n, ts', ks', ss', m', n', xs, ys, t, t', rfl, O, O', k⟩ := h
    refine ⟨_, (pss_one (ps_ret (pe_and (pe_callB (id := "isinstance")  (C8.call_isC T.ic_31) (by rfl) T.z_isinstance (by decide +kernel) (pa_cons (pv 1) (pa_cons (pe_glob (v := .ref (a 31)) (by rfl) T.cg_31 rfl) pa_nil))) (pe_and (pe_cmpR (op_eqO (E := fun _ _ _ => False) G5804 (hr.mono (by decide)) T.m_5804.at_ T.m_5804.fn T.b5804 pass0) (pe_fld (pv 0) rfl) (pe_fld (pv 1) rfl) (nomark _)) (pe_one (pe_cmpR (op_eqD (hu_of64 hr)) (pe_fld (pv 0) rfl) (pe_fld (pv 1) rfl) (nomark _))))))), ?_⟩
    obtain ⟨sx, c1, c2, c3, so⟩ := id O.sch
    obtain ⟨sx', c1', c2', c3', so'⟩ := id O'.sch
    refine ⟨_, rfl, q, dy, _, rfl, O'.ob, true, rfl, ?_⟩
    refine ⟨_, rfl, p, _, dx, _, _, rfl, O.ob, T.cl_31, T.no_31_schema, fldp_sc _ _ _, _, rfl, q, _, dy, _, _, rfl, O'.ob, T.cl_31, T.no_31_schema, fldp_sc _ _ _, sp, sq, sx, sx', _, _, rfl, rfl, so.ob, so'.ob, sp, sq, ts, ks, ss, m, n, ts', ks', ss', m', n', rfl, O.sch, O'.sch, _, rfl, _, rfl, ?_⟩
    show if schB ts ks ss ts' ks' ss' = true then _ else _
    cases h1 : schB ts ks ss ts' ks' ss' with
    | false =>
      rw [h1] at k
      exact k
    | true =>
      rw [h1, Bool.true_and] at k
      exact ⟨_, rfl, p, _, dx, _, _, rfl, O.ob, T.cl_31, T.no_31__steps, fldp_st _ _ _, _, rfl, q, _, dy, _, _, rfl, O'.ob, T.cl_31, T.no_31__steps, fldp_st _ _ _, stsD xs, stsD ys, .lst (.of O.ls) (dp_sts O.st), .lst (.of O'.ls) (dp_sts O'.st), sts_shaped fun b hb => (O.st b hb).2, sts_shaped fun b hb => (O'.st b hb).2, k⟩
def spStL (CS CP : Addr) : Sp := fun vs H Q _ => ∃ (p dx sp l : Addr) (ts : List (Str × Int)) (ks : List KeyE) (ss : List SvE) (m n : Nat) (xs : List StE) (t : SzD), vs = [.ref p] ∧ PrO CS CP p dx sp l H ts ks ss m n xs t ∧ ∀ r, H r = none → Q (.ref r) (upd H r (.lst (refsOf xs)))
theorem ok_stl (T : Txt K mg a d) : FnOk P w K mg base CX0 1 (a 4102) (d 4102) ["self"] (spStL (a 48) (a 31)) := by
  refine T.F4102.ok sc_Program_step_list (fun vs H Q E h => ?_) (fun cdv A outer s H vs Q E hr h => ?_)
  · obtain ⟨p, dx, sp, l, ts, ks, ss, m, n, xs, t, rfl, _⟩ := h
    rfl
  · obtain ⟨p, dx, sp, l, ts, ks, ss, m, n, xs, t, rfl, O, q⟩ := h
    refine ⟨_, (pss_one (ps_ret (pe_callTy (T := "list")  call_list_of (by rfl) T.z_list (by decide +kernel) (pa_cons (pe_fld (pv 0) rfl) pa_nil)))), ?_⟩
    exact ⟨_, rfl, p, _, dx, _, _, rfl, O.ob, T.cl_31, T.no_31__steps, fldp_st _ _ _, l, _, rfl, .inl (.of O.ls), q⟩
end
/-- Program(schema, steps), made -/
theorem mk_prog {CS CP CE sp l : Addr} {H : Hp} {ts : List (Str × Int)} {ks : List KeyE} {ss : List SvE} {m n : Nat} {xs : List StE} {Q' : Hp → Prop} {E : XK} {x dx : Addr} (hS : SchAt CS sp H ts ks ss m n) (hl : H l = some (.lst (refsOf xs))) (hx : ∀ b ∈ xs, StAt H b.1 b.2 ∧ StOk b.2) (x1 : 1 ≤ xs.length) (x12 : xs.length ≤ 12)
    (fx : H x = none) (fdx : H dx = none) (ndx : dx ≠ x)
    (q1 : ∀ u i, runG ts ss (xs.map (·.2)) sz0 0 = .inl (u, i) → ∀ H', Same H H' → Er2 CE "part" "at" (.str u) (.int (i : Nat)) H' E)
    (q2 : ∀ sz st, runG ts ss (xs.map (·.2)) sz0 0 = .inr sz → (xs.map (·.2)).getLast? = some st → ∀ H' l', PrO CS CP x dx sp l' H' ts ks ss m n xs (szOf sz st.name) → H l' = none → Same H H' → Q' H') :
    spPInit CS CP CE (.ref x :: ([.ref sp, .ref l] ++ [])) (upd (upd H dx (.own x)) x (.ins CP dx [])) (fun u H2 => u = .non ∧ Q' H2) E := by
  have s1 := same_upd (o := .own x) fdx
  have f1 : upd H dx (.own x) x = none := by rw [upd_ne ndx.symm]; exact fx
  have s := s1.trans (same_upd (o := .ins CP dx []) f1)
  refine ⟨x, dx, sp, l, xs, ts, ks, ss, m, n, rfl, upd_same, hS.same s, s _ _ hl, fun b hb => ⟨(hx b hb).1.keeps fun _ _ e => s _ _ e, (hx b hb).2⟩, x1, x12, fun u i e H' s' => q1 u i e H' (s.trans s'), fun sz st e1 e2 H' l' hp hl' fl nl keep => ⟨rfl, ?_⟩⟩
  have sH : Same H H' := fun b u e => keep b u (ne_of_none e fx) (s _ _ e)
  exact q2 sz st e1 e2 H' l' ⟨hp, hS.same sH, hl', fun b hb => ⟨(hx b hb).1.keeps fun _ _ e => sH _ _ e, (hx b hb).2⟩, x1, x12⟩ (same_none s fl) sH
section
variable {P : Program} {w : World} {K : PySem.W.Frag} {mg : Str → Option Value} {base : Heap} {a : Nat → Addr} {d : Nat → FuncData}
def spUnd (CS CP CE : Addr) : Sp := fun vs H Q E => ∃ (p dx sp l so : Addr) (ts : List (Str × Int)) (ks : List KeyE) (ss : List SvE) (m n : Nat) (xs : List StE) (t : SzD) (ts' : List (Str × Int)) (ks' : List KeyE) (ss' : List SvE) (m' n' : Nat), vs = [.ref p, .ref so] ∧ PrO CS CP p dx sp l H ts ks ss m n xs t ∧ SchAt CS so H ts' ks' ss' m' n' ∧
  (∀ u i, runG ts' ss' (xs.map (·.2)) sz0 0 = .inl (u, i) → ∀ H', Same H H' → Er2 CE "part" "at" (.str u) (.int (i : Nat)) H' E) ∧
  (∀ sz st, runG ts' ss' (xs.map (·.2)) sz0 0 = .inr sz → (xs.map (·.2)).getLast? = some st → ∀ r dr H' l', PrO CS CP r dr so l' H' ts' ks' ss' m' n' xs (szOf sz st.name) → H r = none → Same H H' → Q (.ref r) H')
end
/-! ### words of lines, as data -/
def nT (i : Int) : Str := Str.ofString (toString i)
theorem nT_nat (n : Nat) : TL.tl (nT (n : Int)) = TL.numL n := TL.tl_num n
theorem ofString_app (x y : String) : Str.ofString (x ++ y) = Str.ofString x ++ Str.ofString y := by
  refine TL.ext_tl ?_
  rw [TL.tl_append, Str.ofString_eq_toList, Str.ofString_eq_toList, Str.ofString_eq_toList]
  show ((x ++ y).toList.map Char.toNat) = _ ++ _
  rw [String.toList_append, List.map_append]
theorem nT_neg {n : Nat} (h : 0 < n) : nT (-(n : Int)) = "-" ++ nT (n : Int) := by
  obtain ⟨m, rfl⟩ : ∃ m, n = m + 1 := ⟨n - 1, by omega⟩
  have e : toString (-(((m + 1 : Nat)) : Int)) = "-" ++ toString (((m + 1 : Nat)) : Int) := rfl
  unfold nT
  rw [e, ofString_app]
/-- the text of a number read: digits, no 0 ahead -/
def digB (c : Nat) : Bool := decide (48 ≤ c ∧ c ≤ 57)
def numO (s : Str) : Option Int := if decide (1 ≤ s.length ∧ s.length ≤ 30) && s.cps.toList.all digB then (if s.cps.toList.head? = some 48 ∧ s ≠ "0" then none else some ((NumText.digitsVal s.cps.toList : Nat) : Int)) else none
theorem numL_head {n : Nat} (h : (TL.numL n).head? = some 48) : n = 0 := by
  induction n using Nat.strongRecOn with
  | ind n ih =>
    by_cases h10 : n < 10
    · rw [TL.numL_lt h10] at h
      simp at h
      omega
    · rw [TL.numL_step (by omega)] at h
      rw [List.head?_append] at h
      have h2 : (TL.numL (n / 10)).head? = some 48 := by
        cases e : TL.numL (n / 10) with
        | nil => exact absurd e (TL.numL_ne _)
        | cons c r => rw [e] at h; simpa using h
      have := ih (n / 10) (by omega) h2
      omega
theorem num_nT {n : Nat} (h : n < 10 ^ 30) : numO (nT (n : Int)) = some (n : Int) := by
  have e := nT_nat n
  have e : (nT (n : Int)).cps.toList = TL.numL n := e
  have l1 : (nT (n : Int)).length = (TL.numL n).length := by rw [TL.len_tl]; exact congrArg List.length e
  have l2 := TL.numL_len (n := n) (k := 30) (by decide) h
  have l3 : 1 ≤ (TL.numL n).length := List.length_pos_iff.mpr (TL.numL_ne n)
  unfold numO
  rw [e, decide_eq_true (show 1 ≤ (nT (n : Int)).length ∧ (nT (n : Int)).length ≤ 30 by omega), Bool.true_and]
  have hd : (TL.numL n).all digB = true := List.all_eq_true.mpr fun c hc => decide_eq_true (TL.numL_digits n c hc)
  rw [if_pos hd]
  have hz : ¬ ((TL.numL n).head? = some 48 ∧ nT (n : Int) ≠ "0") := by
    rintro ⟨h1, h2⟩
    have := numL_head h1
    subst this
    exact h2 (by decide +kernel)
  rw [if_neg hz, TL.numL_val]
/-- the text of a value -/
def valO (s : Str) : Option PyData := if s.cps.toList.head? = some 45 then (match numO ⟨(s.cps.toList.drop 1).toArray⟩ with
    | none => none
    | some n => if n = 0 then none else some (.int (-n)))
  else match numO s with
    | some n => some (.int n)
    | none => if wordB s = true then some (.str s) else none
def termO (s : Str) : Option PyData := if s.cps.toList.head? = some 63 then (match numO ⟨(s.cps.toList.drop 1).toArray⟩ with
    | none => none
    | some n => some (.tuple [.int n]))
  else valO s
def termW : PyData → Str
  | .int i => nT i
  | .str s => s
  | .tuple [.int i] => "?" ++ nT i
  | _ => ""
theorem nT_tl {n : Nat} : (nT (n : Int)).cps.toList = TL.numL n := nT_nat n
theorem nT_dig {n c : Nat} (h : c ∈ (nT (n : Int)).cps.toList) : 48 ≤ c ∧ c ≤ 57 := TL.numL_digits n c (by rw [← nT_tl]; exact h)
theorem str_mk (s : Str) : (⟨s.cps.toList.toArray⟩ : Str) = s := TL.ext_tl (by show s.cps.toList.toArray.toList = _; simp)
theorem nT_head {n k : Nat} (hk : k < 48 ∨ 57 < k) : (nT (n : Int)).cps.toList.head? ≠ some k := fun e => by
  have hm : k ∈ (nT (n : Int)).cps.toList := by
    cases h : (nT (n : Int)).cps.toList with
    | nil => rw [h] at e; cases e
    | cons c r => rw [h] at e; cases e; exact List.mem_cons_self
  have := nT_dig hm
  omega
theorem app1 {x y : Str} {k : Nat} (hx : x.cps.toList = [k]) : (x ++ y).cps.toList = k :: y.cps.toList := by
  rw [cps_app, hx]
  rfl
theorem word_num {s : Str} (h : wordB s = true) : numO s = none := by
  unfold wordB at h
  rw [Bool.and_eq_true] at h
  have h1 := of_decide_eq_true h.1
  unfold numO
  rw [if_neg]
  rw [Bool.and_eq_true]
  rintro ⟨_, h2⟩
  cases e : s.cps.toList with
  | nil => rw [TL.len_tl] at h1; have : (TL.tl s) = [] := e; rw [this] at h1; exact absurd h1.1 (by decide)
  | cons c r =>
    rw [e] at h h2
    have a1 := of_decide_eq_true (List.all_eq_true.mp h.2 c (by simp))
    have a2 : 48 ≤ c ∧ c ≤ 57 := of_decide_eq_true (List.all_eq_true.mp h2 c (by simp))
    omega
theorem word_head {s : Str} (h : wordB s = true) {k : Nat} (hk : k < 97) : s.cps.toList.head? ≠ some k := fun e => by
  unfold wordB at h
  rw [Bool.and_eq_true] at h
  cases es : s.cps.toList with
  | nil => rw [es] at e; cases e
  | cons c r =>
    rw [es] at e h
    cases e
    have := of_decide_eq_true (List.all_eq_true.mp h.2 k (by simp))
    omega
theorem val_back {d : PyData} (h : valD d = true) : valO (termW d) = some d ∧ (termW d).cps.toList.head? ≠ some 63 := by
  cases d with
  | int i =>
    have h := of_decide_eq_true h
    by_cases hi : 0 ≤ i
    · obtain ⟨n, rfl⟩ : ∃ n : Nat, i = n := ⟨i.toNat, by omega⟩
      have hn : n < 10 ^ 30 := by have := h.2; omega
      refine ⟨?_, nT_head (.inr (by decide))⟩
      show valO (nT (n : Int)) = _
      unfold valO
      rw [if_neg (nT_head (.inl (by decide))), num_nT hn]
    · obtain ⟨n, rfl, hp⟩ : ∃ n : Nat, i = -(n : Int) ∧ 0 < n := ⟨(-i).toNat, by omega, by omega⟩
      have hn : n < 10 ^ 30 := by have := h.1; omega
      have e : termW (.int (-(n : Int))) = "-" ++ nT (n : Int) := nT_neg hp
      have tl : (("-" : Str) ++ nT (n : Int)).cps.toList = 45 :: (nT (n : Int)).cps.toList := app1 (by decide +kernel)
      rw [e]
      refine ⟨?_, by rw [tl]; simp⟩
      unfold valO
      rw [if_pos (by rw [tl]; rfl), tl]
      show (match numO ⟨((nT (n : Int)).cps.toList).toArray⟩ with
        | none => none
        | some m => if m = 0 then none else some (PyData.int (-m))) = _
      rw [str_mk, num_nT hn]
      exact if_neg (by omega)
  | str s =>
    have h : wordB s = true := h
    refine ⟨?_, word_head h (by decide)⟩
    show valO s = _
    unfold valO
    rw [if_neg (word_head h (by decide)), word_num h]
    exact if_pos h
  | _ => cases h
theorem term_back {d : PyData} (h : termD d = true) : termO (termW d) = some d := by
  unfold termD at h
  rw [Bool.or_eq_true] at h
  rcases h with h | h
  · obtain ⟨h1, h2⟩ := val_back h
    unfold termO
    rw [if_neg h2, h1]
  · unfold varD at h
    split at h
    · rename_i i
      have h := of_decide_eq_true h
      obtain ⟨n, rfl⟩ : ∃ n : Nat, i = n := ⟨i.toNat, by omega⟩
      have hn : n < 10 ^ 30 := by have := h.2; omega
      have tl : (("?" : Str) ++ nT (n : Int)).cps.toList = 63 :: (nT (n : Int)).cps.toList := app1 (by decide +kernel)
      show termO (("?" : Str) ++ nT (n : Int)) = _
      unfold termO
      rw [if_pos (by rw [tl]; rfl), tl]
      show (match numO ⟨((nT (n : Int)).cps.toList).toArray⟩ with
        | none => none
        | some m => some (PyData.tuple [.int m])) = _
      rw [str_mk, num_nT hn]
    · cases h
theorem sgn_dig {c : Nat} : ((!decide (([c] : List Nat) < [48])) && (!decide (([57] : List Nat) < [c]))) = digB c := by
  have h1 : (([c] : List Nat) < [48]) ↔ c < 48 := by rw [List.cons_lt_cons_iff]; simp
  have h2 : (([57] : List Nat) < [c]) ↔ 57 < c := by rw [List.cons_lt_cons_iff]; simp
  unfold digB
  simp only [h1, h2]
  by_cases a : c < 48 <;> by_cases b : 57 < c <;> simp [a, b] <;> omega
def optI : Option Int → V
  | none => .non
  | some i => .int i
section
variable {P : Program} {w : World} {K : PySem.W.Frag} {mg : Str → Option Value} {base : Heap} {a : Nat → Addr} {d : Nat → FuncData}
def spNumT : Sp := fun vs H Q _ => ∃ s : Str, vs = [.str s] ∧ s.length ≤ 1000 ∧ ∀ H', Same H H' → Q (optI (numO s)) H'
theorem ok_number (T : Txt K mg a d) : FnOk P w K mg base CX0 1 (a 52) (d 52) ["text"] spNumT := by
  refine T.F52.ok sc__number (fun vs H Q E h => ?_) (fun cdv A outer s H vs Q E hr h => ?_)
  · obtain ⟨s, rfl, _⟩ := h
    rfl
  · obtain ⟨s, rfl, hl, q⟩ := h
    obtain ⟨t8, h_MOST_DIGITS⟩ := T.c_MOST_DIGITS
    refine ⟨_, (pss_cons (ps_if (PW.pt (pw_or (pt_not (pt_chain op_le op_le pe_int (pe_callB (id := "len")  call_len_str (by rfl) T.z_len (by decide +kernel) (pa_cons (pv 0) pa_nil)) (pe_glob (v := .int (30)) rfl h_MOST_DIGITS ⟨_, rfl⟩))) (pw_or1 (pt_not (pt_val (pe_callB (id := "all")  (cr_all rfl) (by rfl) T.z_all (by decide +kernel) (pa_cons (pe_lc (own := [("sign", 1)]) rfl sc__number.nd (pi_str (pv 0)) (blkOk_by (N := ["text", "sign"]) (sc := defScope s__number) (by decide +kernel)) (fun _ _ _ _ _ => pg_name (i := 1) sc__number.nd rfl (.inl rfl)) (fun _ _ _ _ _ => pts_nil) (fun _ _ _ _ _ => (pe_chain op_le_str op_le_str pe_str (pv 1) pe_str))) pa_nil)))))))
    (pss_one (ps_ret pe_non))
    pss_nil)
  (pss_one (ps_ret (pe_ifExp (PW.pt (pw_and (pt_cmpR op_eq (pe_ix ix_str (pv 0) pe_int (fun _ _ => rfl)) pe_str (nomark _)) (pw_and1 (pt_cmpR op_ne (pv 0) pe_str (nomark _))))) pe_non (pe_callTy (T := "int")  call_int_str (by rfl) T.z_int (by decide +kernel) (pa_cons (pv 0) pa_nil)))))), ?_⟩
    have bad : ¬ (1 ≤ s.length ∧ s.length ≤ 30) → ∀ H', Same H H' → Q .non H' := fun h H' s' => by
      have q1 := q H' s'
      unfold numO at q1
      rw [decide_eq_false h, Bool.false_and, if_neg (by decide)] at q1
      exact q1
    refine ⟨_, rfl, _, rfl, small1000' hl, _, _, rfl, rfl, _, rfl, ite_d (fun h1 => ?_) (fun h1 => ?_)⟩
    rotate_left
    · exact ⟨_, rfl, ifT (bad (by omega) H (Same.refl H))⟩
    refine ⟨_, _, rfl, rfl, _, rfl, ite_nd (fun h2 => ?_) (fun h2 => ?_)⟩
    · exact bad (by omega) H (Same.refl H)
    have hlen : 1 ≤ s.length ∧ s.length ≤ 30 := by omega
    refine ⟨_, rfl, _, rfl, fun D hD => ?_⟩
    refine lc_str (fun i H' => H' D = some (.lst (((s.cps.toList.take i).map digB).map V.bl)) ∧ Same H H') ⟨upd_same, same_upd hD⟩ (fun i c H' hx hp => ?_) (fun H' hp => ?_)
    · have hx' : s.cps.toList[i]? = some c := by rw [Array.getElem?_toList]; exact hx
      have li : i < s.cps.toList.length := (List.getElem?_eq_some_iff.mp hx').1
      have hsz : (((s.cps.toList.take i).map digB).map V.bl).length < sizeLine := by
        rw [List.length_map, List.length_map, List.length_take]
        have : s.cps.toList.length = s.length := Array.length_toList
        exact small1000 (by omega)
      have step : ∀ b, b = digB c → ∀ H3, H3 = H' → (upd H3 D (.lst (((s.cps.toList.take i).map digB).map V.bl ++ [.bl b]))) D = some (.lst (((s.cps.toList.take (i + 1)).map digB).map V.bl)) ∧ Same H (upd H3 D (.lst (((s.cps.toList.take i).map digB).map V.bl ++ [.bl b]))) := fun b eb H3 e3 => by
        subst e3
        refine ⟨?_, fun x o ex => ?_⟩
        · rw [map_take hx', List.map_append, ← eb]
          exact upd_same
        · rw [upd_ne (ne_of_none ex hD)]
          exact hp.2 x o ex
      have e0 : ("0" : Str).cps.toList = [48] := by decide +kernel
      have e9 : ("9" : Str).cps.toList = [57] := by decide +kernel
      have eo := sgn_dig (c := c)
      refine ⟨rfl, ?_⟩
      refine ⟨_, rfl, _, _, rfl, rfl, _, rfl, ?_⟩
      refine ite_nd (fun h3 => ?_) (fun h3 => ?_)
      · rw [e0] at h3
        have h3' : ¬ ([c] : List Nat) < [48] := h3
        rw [decide_eq_false h3'] at eo
        refine ⟨_, _, rfl, rfl, _, hp.1, hsz, step _ ?_ _ rfl⟩
        rw [e9]
        exact eo
      · rw [e0] at h3
        have h3' : ([c] : List Nat) < [48] := h3
        rw [decide_eq_true h3'] at eo
        exact ⟨_, hp.1, hsz, step _ eo _ rfl⟩
    obtain ⟨h3, h4⟩ := hp
    have et : s.cps.toList.take s.cps.size = s.cps.toList := List.take_of_length_le (Nat.le_of_eq Array.length_toList)
    rw [et] at h3
    refine ⟨D, _, rfl, .of h3, _, rfl, ?_⟩
    rw [show ((s.cps.toList.map digB).all id) = s.cps.toList.all digB by rw [List.all_map]; rfl]
    have q1 := q H' h4
    unfold numO at q1
    rw [decide_eq_true hlen, Bool.true_and] at q1
    cases ed : s.cps.toList.all digB with
    | false =>
      rw [ed, if_neg (by decide)] at q1
      exact ifT q1
    | true =>
    rw [ed, if_pos rfl] at q1
    refine ifF ?_
    obtain ⟨c, r, ec⟩ : ∃ c r, s.cps.toList = c :: r := by
      cases e : s.cps.toList with
      | nil => have h5 : s.length = s.cps.toList.length := TL.len_tl s; rw [e] at h5; exact absurd hlen.1 (by rw [h5]; decide)
      | cons c r => exact ⟨c, r, rfl⟩
    have hi : PySem.intText? s = some ((NumText.digitsVal s.cps.toList : Nat) : Int) := intText_digits (fun c hc => of_decide_eq_true (List.all_eq_true.mp ed c hc)) (by rw [ec]; simp) (by omega)
    have h0 : (V.str ⟨#[c]⟩ = V.str "0") ↔ c = 48 := by
      constructor
      · intro h
        have h := congrArg (fun s : Str => s.cps.toList) (V.str.inj h)
        have h : [c] = ("0" : Str).cps.toList := h
        rw [show ("0" : Str).cps.toList = [48] by decide +kernel] at h
        exact (List.cons.inj h).1
      · rintro rfl
        rfl
    have rest : ¬ (s.cps.toList.head? = some 48 ∧ s ≠ "0") → Q (.int ((NumText.digitsVal s.cps.toList : Nat) : Int)) H' := fun h => by
      rw [if_neg h] at q1
      exact q1
    refine ⟨_, rfl, s, 0, c, rfl, rfl, small1000' hl, by rw [ec]; exact atI_nat (j := 0) rfl, rfl, _, rfl, ite_d (fun h5 => ?_) (fun h5 => ?_)⟩
    · have hc := h0.mp h5
      subst hc
      refine ⟨_, rfl, rfl, _, rfl, ite_nd (fun h6 => ?_) (fun h6 => ?_)⟩
      · rw [if_pos ⟨by rw [ec]; rfl, fun e => h6 (by rw [e])⟩] at q1
        exact q1
      · exact ⟨_, rfl, s, _, rfl, hi, by omega, rest fun z => z.2 (V.str.inj h6)⟩
    · exact ⟨_, rfl, s, _, rfl, hi, by omega, rest fun z => h5 (h0.mpr (by have h7 := z.1; rw [ec] at h7; exact Option.some.inj h7))⟩
theorem sw1 {s t : Str} {k : Nat} (ht : t.cps.toList = [k]) : Txt.startswith s t = decide (s.cps.toList.head? = some k) := by
  have hne : TL.tl t ≠ [] := by show t.cps.toList ≠ []; rw [ht]; simp
  have h1 := TL.at_iff (x := s) (y := t) hne 0
  have h2 : Txt.startswith s t = true ↔ StrLaws.At s t s.length 0 := by
    unfold Txt.startswith StrLaws.At
    rw [Bool.and_eq_true, decide_eq_true_eq]
  rw [Bool.eq_iff_iff, h2, h1, decide_eq_true_eq]
  show TL.pre t.cps.toList (s.cps.toList.drop 0) = true ↔ _
  rw [ht, List.drop_zero]
  cases s.cps.toList with
  | nil =>
    show (([] : List Nat) == [k]) = true ↔ (none : Option Nat) = some k
    simp
  | cons c r =>
    show (([c] : List Nat) == [k]) = true ↔ some c = some k
    simp
theorem cut1 (s : Str) : cutS s (some 1) none = ⟨(s.cps.toList.drop 1).toArray⟩ := by
  refine TL.ext_tl ?_
  unfold cutS
  rw [HT.sIx_none, show (some (1 : Int)) = some ((1 : Nat) : Int) from rfl, HT.sIx_nat]
  show ((List.take _ (List.drop _ _)).toArray).toList = ((List.drop 1 s.cps.toList).toArray).toList
  have hl : s.length = s.cps.toList.length := TL.len_tl s
  rw [hl]
  cases e : s.cps.toList with
  | nil => simp
  | cons c r => simp
def optV : Option PyData → V → Prop
  | none, v => v = .non
  | some d, v => Sc v d
def spName : Sp := fun vs H Q _ => ∃ s : Str, vs = [.str s] ∧ s.length ≤ 1000 ∧ Low s ∧ ∀ H', Same H H' → Q (if wordB s = true then .str s else .non) H'
theorem ok_name (T : Txt K mg a d) : FnOk P w K mg base CX0 2 (a 51) (d 51) ["text"] spName := by
  have G11 : FnOk P w K mg base CX0 1 (a 11) (d 11) ["thing"] (spB wordV) := ok_is_word T
  refine T.F51.ok sc__name (fun vs H Q E h => ?_) (fun cdv A outer s H vs Q E hr h => ?_)
  · obtain ⟨s, rfl, _⟩ := h
    rfl
  · obtain ⟨s, rfl, hl, hc, q⟩ := h
    refine ⟨_, (pss_one (ps_ret (pe_ifExp (pt_val (pe_call G11 (hr.mono (by decide)) (by rfl) T.g11 T.F11.kp T.b11 .nil pass0 (pa_cons (pv 0) pa_nil))) (pv 0) pe_non))), ?_⟩
    refine ⟨_, rfl, _, rfl, .str s hl hc, fun H1 s1 => ⟨_, rfl, ?_⟩⟩
    have q1 := q H1 s1
    cases ew : wordB s with
    | true =>
      rw [ew, if_pos rfl] at q1
      show if wordB s = true then _ else _
      rw [ew]
      exact ifT ⟨_, rfl, q1⟩
    | false =>
      rw [ew, if_neg (by decide)] at q1
      show if wordB s = true then _ else _
      rw [ew]
      exact ifF q1
def spValT : Sp := fun vs H Q _ => ∃ s : Str, vs = [.str s] ∧ s.length ≤ 1000 ∧ Low s ∧ ∀ v H', optV (valO s) v → Same H H' → Q v H'
theorem ok_value3 (T : Txt K mg a d) : FnOk P w K mg base CX0 3 (a 53) (d 53) ["text"] spValT := by
  have G52 : FnOk P w K mg base CX0 1 (a 52) (d 52) ["text"] spNumT := ok_number T
  have G51 : FnOk P w K mg base CX0 2 (a 51) (d 51) ["text"] spName := ok_name T
  refine T.F53.ok sc__value (fun vs H Q E h => ?_) (fun cdv A outer s H vs Q E hr h => ?_)
  · obtain ⟨s, rfl, _⟩ := h
    rfl
  · obtain ⟨s, rfl, hl, hc, q⟩ := h
    refine ⟨_, (pss_cons (ps_if (pt_not (pt_val (pe_m1 PySem.F.slot_str_startswith PySem.F.type_str_startswith mt_startswith (pv 0) pe_str)))
    (pss_cons (ps_set (i := 1) sc__value.nd rfl (.inl rfl) (pe_call G52 (hr.mono (by decide)) (by rfl) T.g52 T.F52.kp T.b52 .nil pass0 (pa_cons (pv 0) pa_nil)))
      (pss_one (ps_ret (pe_ifExp (pt_cmpR op_isN (pv 1) pe_non (nomark _)) (pe_call G51 (hr.mono (by decide)) (by rfl) T.g51 T.F51.kp T.b51 .nil pass0 (pa_cons (pv 0) pa_nil)) (pv 1)))))
    pss_nil)
  (pss_cons (ps_set (i := 1) sc__value.nd rfl (.inl rfl) (pe_call G52 (hr.mono (by decide)) (by rfl) T.g52 T.F52.kp T.b52 .nil pass0 (pa_cons (pe_slice sl_str (pv 0) (po_some pe_int) po_none) pa_nil)))
  (pss_one (ps_ret (pe_ifExp (PW.pt (pw_or (pt_cmpR op_isN (pv 1) pe_non (nomark _)) (pw_or1 (pt_cmpR op_eq (pv 1) pe_int (nomark _))))) pe_non (pe_un un_neg (pv 1))))))), ?_⟩
    refine ⟨_, rfl, ⟨_, rfl⟩, s, "-", rfl, rfl, _, rfl, ?_⟩
    rw [sw1 (show ("-" : Str).cps.toList = [45] by decide +kernel)]
    by_cases h : s.cps.toList.head? = some 45
    · rw [decide_eq_true h]
      refine ifF ?_
      refine ⟨_, rfl, _, rfl, ?_⟩
      unfold tNoPart
      have hl' : (cutS s (some 1) none).length ≤ 1000 := by
        rw [cut1]
        show ((s.cps.toList.drop 1).toArray).size ≤ 1000
        rw [List.size_toArray, List.length_drop]
        have := TL.len_tl s
        have h2 : (TL.tl s).length = s.cps.toList.length := rfl
        omega
      refine ⟨s, rfl, small1000' hl, _, rfl, hl', fun H1 s1 => ?_⟩
      have ev : valO s = (match numO (cutS s (some 1) none) with
        | none => none
        | some n => if n = 0 then none else some (.int (-n))) := by
        unfold valO
        rw [if_pos h, cut1]
        all_goals (cases numO ⟨(s.cps.toList.drop 1).toArray⟩ <;> rfl)
      rw [ev] at q
      cases en : numO (cutS s (some 1) none) with
      | none =>
        rw [en] at q
        exact ⟨_, rfl, rfl, _, rfl, ite_d (fun _ => q _ H1 rfl s1) (fun e => absurd rfl e)⟩
      | some n =>
        rw [en] at q
        refine ⟨_, rfl, rfl, _, rfl, ite_d (fun e => nomatch e) (fun _ => ?_)⟩
        refine ⟨_, rfl, rfl, _, rfl, ite_eqI (fun e => ?_) (fun e => ?_)⟩
        · exact q _ H1 (by show optV (if n = 0 then none else some (.int (-n))) _; rw [if_pos e]; rfl) s1
        · exact ⟨_, rfl, _, rfl, q _ H1 (by show optV (if n = 0 then none else some (.int (-n))) _; rw [if_neg e]; exact .int _) s1⟩
    · rw [decide_eq_false h]
      refine ifT ?_
      refine ⟨_, rfl, s, rfl, hl, fun H1 s1 => ?_⟩
      have ev : valO s = (match numO s with
        | some n => some (.int n)
        | none => if wordB s = true then some (.str s) else none) := by
        unfold valO
        rw [if_neg h]
        all_goals (cases numO s <;> rfl)
      rw [ev] at q
      cases en : numO s with
      | some n =>
        rw [en] at q
        exact ⟨_, rfl, rfl, _, rfl, ite_d (fun e => nomatch e) (fun _ => ⟨_, rfl, q _ H1 (.int n) s1⟩)⟩
      | none =>
        rw [en] at q
        refine ⟨_, rfl, rfl, _, rfl, ite_d (fun _ => ?_) (fun e => absurd rfl e)⟩
        refine ⟨_, rfl, s, rfl, hl, hc, fun H2 s2 => ?_⟩
        have q2 := fun v => q v H2
        by_cases ew : wordB s = true
        · rw [if_pos ew]
          exact q _ H2 (by show optV (if wordB s = true then some (.str s) else none) _; rw [if_pos ew]; exact .str s hl hc) (s1.trans s2)
        · rw [if_neg ew]
          exact q _ H2 (by show optV (if wordB s = true then some (.str s) else none) _; rw [if_neg ew]; rfl) (s1.trans s2)
/-- a reader: what a word says, as data; it goes to a place that is free -/
def spRdr (g : Str → Option PyData) : Sp := fun vs H Q _ => ∃ s : Str, vs = [.str s] ∧ s.length ≤ 1000 ∧ Low s ∧ (g s = none → ∀ H', Same H H' → Q .non H') ∧ ∀ d, g s = some d → ∀ v H', (∀ (C : Addr → Prop), Occ C H → DA C H' 1 v d) → v ≠ .non → Same H H' → Q v H'
end
/-! ### the words of items -/
def itemO (s : Str) : Option PyData := if s.cps.toList.head? = some 35 then (numO ⟨(s.cps.toList.drop 1).toArray⟩).map .int
  else if s.cps.toList.head? = some 61 then (valO ⟨(s.cps.toList.drop 1).toArray⟩).map fun d => .tuple [d] else none
theorem val_nn (s : Str) : valO s ≠ some .none := by
  intro h
  unfold valO at h
  split at h
  · split at h
    · cases h
    · split at h <;> cases h
  · split at h
    · cases h
    · split at h <;> cases h
section
variable {P : Program} {w : World} {K : PySem.W.Frag} {mg : Str → Option Value} {base : Heap} {a : Nat → Addr} {d : Nat → FuncData}
theorem cut1_len {s : Str} (hl : s.length ≤ 1000) : (cutS s (some 1) none).length ≤ 1000 := by
  rw [cut1]
  show ((s.cps.toList.drop 1).toArray).size ≤ 1000
  rw [List.size_toArray, List.length_drop]
  have := TL.len_tl s
  have h2 : (TL.tl s).length = s.cps.toList.length := rfl
  omega
theorem cut1_low {s : Str} (h : Low s) : Low (cutS s (some 1) none) := fun c hc => h c (cutS_mem hc)
theorem ok_item3 (T : Txt K mg a d) : FnOk P w K mg base CX0 4 (a 54) (d 54) ["text"] (spRdr itemO) := by
  have G52 : FnOk P w K mg base CX0 1 (a 52) (d 52) ["text"] spNumT := ok_number T
  have G53 : FnOk P w K mg base CX0 3 (a 53) (d 53) ["text"] spValT := ok_value3 T
  refine T.F54.ok sc__item (fun vs H Q E h => ?_) (fun cdv A outer s H vs Q E hr h => ?_)
  · obtain ⟨s, rfl, _⟩ := h
    rfl
  · obtain ⟨s, rfl, hl, hc, q0, q⟩ := h
    refine ⟨_, (pss_cons (ps_if (pt_val (pe_m1 PySem.F.slot_str_startswith PySem.F.type_str_startswith mt_startswith (pv 0) pe_str))
    (pss_one (ps_ret (pe_call G52 (hr.mono (by decide)) (by rfl) T.g52 T.F52.kp T.b52 .nil pass0 (pa_cons (pe_slice sl_str (pv 0) (po_some pe_int) po_none) pa_nil))))
    pss_nil)
  (pss_cons (ps_set (i := 1) sc__item.nd rfl (.inl rfl) (pe_ifExp (pt_val (pe_m1 PySem.F.slot_str_startswith PySem.F.type_str_startswith mt_startswith (pv 0) pe_str)) (pe_call G53 (hr.mono (by decide)) (by rfl) T.g53 T.F53.kp T.b53 .nil pass0 (pa_cons (pe_slice sl_str (pv 0) (po_some pe_int) po_none) pa_nil)) pe_non))
  (pss_one (ps_ret (pe_ifExp (pt_cmpR op_isN (pv 1) pe_non (nomark _)) pe_non (pe_tup (pa_cons (pv 1) pa_nil))))))), ?_⟩
    refine ⟨_, rfl, ⟨_, rfl⟩, s, "#", rfl, rfl, _, rfl, ?_⟩
    rw [sw1 (show ("#" : Str).cps.toList = [35] by decide +kernel)]
    by_cases h : s.cps.toList.head? = some 35
    · rw [decide_eq_true h]
      refine ifT ?_
      refine ⟨_, rfl, ?_⟩
      unfold tNoPart
      refine ⟨_, rfl, s, rfl, small1000' hl, _, rfl, cut1_len hl, fun H1 s1 => ?_⟩
      have ev : itemO s = (numO (cutS s (some 1) none)).map .int := by
        unfold itemO
        rw [if_pos h, cut1]
      cases en : numO (cutS s (some 1) none) with
      | none =>
        rw [en] at ev
        exact q0 ev H1 s1
      | some n =>
        rw [en] at ev
        exact q (.int n) ev _ H1 (fun C _ => Sc.da (.int n)) (fun z => nomatch z) s1
    · rw [decide_eq_false h]
      refine ifF ?_
      refine ⟨_, rfl, ⟨_, rfl⟩, s, "=", rfl, rfl, _, rfl, ?_⟩
      rw [sw1 (show ("=" : Str).cps.toList = [61] by decide +kernel)]
      by_cases h2 : s.cps.toList.head? = some 61
      · rw [decide_eq_true h2]
        refine ifT ?_
        refine ⟨_, rfl, ?_⟩
        unfold tNoPart
        refine ⟨_, rfl, s, rfl, small1000' hl, _, rfl, cut1_len hl, cut1_low hc, fun v H1 hv s1 => ?_⟩
        have ev : itemO s = (valO (cutS s (some 1) none)).map fun d => .tuple [d] := by
          unfold itemO
          rw [if_neg h, if_pos h2, cut1]
        cases en : valO (cutS s (some 1) none) with
        | none =>
          rw [en] at ev hv
          have hv : v = .non := hv
          subst hv
          exact ⟨_, rfl, rfl, _, rfl, ite_d (fun _ => q0 ev H1 s1) (fun e => absurd rfl e)⟩
        | some dd =>
          rw [en] at ev hv
          have hv : Sc v dd := hv
          refine ⟨_, rfl, rfl, _, rfl, ite_d (fun e => ?_) (fun _ => ?_)⟩
          · subst e
            cases hv
            exact absurd en (val_nn _)
          · refine ⟨_, rfl, by show 1 ≤ sizeLine; decide, fun t ht => ?_⟩
            have st := same_upd (o := .tup [v]) ht
            exact q _ ev _ _ (fun C hO => .tup ((hO.same s1).new ht) upd_same (by show 1 ≤ 5000; decide) (.cons hv .nil)) (fun e => nomatch e) (s1.trans st)
      · rw [decide_eq_false h2]
        refine ifF ?_
        have ev : itemO s = none := by
          unfold itemO
          rw [if_neg h, if_neg h2]
        exact ⟨_, rfl, rfl, _, rfl, ite_d (fun _ => q0 ev H (Same.refl H)) (fun e => absurd rfl e)⟩
end
/-! ### lines, as data -/
def joinS (ws : List Str) : Str := Str.join " " ws
def nameS : PyData → Str
  | .str s => s
  | _ => ""
def atomL (x : PyData) : Str := joinS ("atom" :: nameS (atName x) :: (atTerms x).map termW)
def partL (d : PyData) : List Str := joinS ("part" :: (headOf d).map termW) :: (atomsOf d).map atomL
def linesD (w : Int) (ds : List PyData) : List Str := joinS ["question", nT w] :: ds.flatMap partL
def AtOk (x : PyData) : Prop := ∃ n ts, x = .tuple [.str n, .tuple ts] ∧ Wd n ∧ ts.length ≤ 4 ∧ ∀ t ∈ ts, termD t = true
def PtOk (d : PyData) : Prop := ∃ hs as, d = .tuple [.tuple hs, .list as] ∧ hs.length ≤ 12 ∧ as.length ≤ 20 ∧ (∀ t ∈ hs, termD t = true) ∧ ∀ x ∈ as, AtOk x
theorem big30 {i : Int} (h : -(10 ^ 30) < i ∧ i < 10 ^ 30) : i.natAbs.log2 < 1920 := by
  have h2 : i.natAbs < 2 ^ 100 := by omega
  exact Nat.lt_of_lt_of_le (PySem.Flt.log2_lt_of (by decide) h2) (by decide)
theorem nT_len {i : Int} (h : -(10 ^ 30) < i ∧ i < 10 ^ 30) : (nT i).length ≤ 31 := by
  by_cases hi : 0 ≤ i
  · obtain ⟨n, rfl⟩ : ∃ n : Nat, i = n := ⟨i.toNat, by omega⟩
    have l1 := TL.len_tl (nT (n : Int))
    rw [nT_nat] at l1
    have := TL.numL_len (n := n) (k := 30) (by decide) (by have := h.2; omega)
    omega
  · obtain ⟨n, rfl, hp⟩ : ∃ n : Nat, i = -(n : Int) ∧ 0 < n := ⟨(-i).toNat, by omega, by omega⟩
    rw [nT_neg hp, len_app]
    have l1 := TL.len_tl (nT (n : Int))
    rw [nT_nat] at l1
    have := TL.numL_len (n := n) (k := 30) (by decide) (by have := h.1; omega)
    have l2 : ("-" : Str).length = 1 := rfl
    omega
/-- the signs of a word of a line -/
def SgOk (s : Str) : Prop := s.length ≤ 40 ∧ ∀ c ∈ s.cps.toList, c < 128 ∧ c ≠ 32
theorem nT_sg {i : Int} (h : -(10 ^ 30) < i ∧ i < 10 ^ 30) : SgOk (nT i) := by
  refine ⟨Nat.le_trans (nT_len h) (by decide), fun c hc => ?_⟩
  by_cases hi : 0 ≤ i
  · obtain ⟨n, rfl⟩ : ∃ n : Nat, i = n := ⟨i.toNat, by omega⟩
    have := nT_dig hc
    omega
  · obtain ⟨n, rfl, hp⟩ : ∃ n : Nat, i = -(n : Int) ∧ 0 < n := ⟨(-i).toNat, by omega, by omega⟩
    rw [nT_neg hp, app1 (show ("-" : Str).cps.toList = [45] by decide +kernel)] at hc
    rcases List.mem_cons.mp hc with rfl | hc
    · decide
    · have := nT_dig hc
      omega
theorem termW_sg {d : PyData} (h : termD d = true) : SgOk (termW d) := by
  unfold termD at h
  rw [Bool.or_eq_true] at h
  rcases h with h | h
  · cases d with
    | int i =>
      have h := of_decide_eq_true h
      exact nT_sg (by omega)
    | str s =>
      have h : wordB s = true := h
      unfold wordB at h
      rw [Bool.and_eq_true] at h
      have h1 := of_decide_eq_true h.1
      refine ⟨Nat.le_trans h1.2 (by decide), fun c hc => ?_⟩
      have := of_decide_eq_true (List.all_eq_true.mp h.2 c hc)
      omega
    | _ => cases h
  · unfold varD at h
    split at h
    · rename_i i
      have h := of_decide_eq_true h
      have h0 := nT_sg (i := i) (by omega)
      have hl := nT_len (i := i) (by omega)
      have l2 : ("?" : Str).length = 1 := rfl
      refine ⟨?_, fun c hc => ?_⟩
      · show (("?" : Str) ++ nT i).length ≤ 40
        rw [len_app]
        omega
      · have hc : c ∈ (("?" : Str) ++ nT i).cps.toList := hc
        rw [app1 (show ("?" : Str).cps.toList = [63] by decide +kernel)] at hc
        rcases List.mem_cons.mp hc with rfl | hc
        · decide
        · exact h0.2 c hc
    · cases h
theorem wd_sg {s : Str} (h : Wd s) : SgOk s := ⟨Nat.le_trans h.2.1 (by decide), fun c hc => by have := h.2.2 c hc; omega⟩
theorem paired_right' {α β : Type} {F : α → β → Prop} : ∀ {xs : List α} {ys : List β} {y : β}, Paired F xs ys → y ∈ ys → ∃ x ∈ xs, F x y
  | _, _, _, .cons r t, h => by
    rcases List.mem_cons.mp h with rfl | h
    · exact ⟨_, List.mem_cons_self, r⟩
    · obtain ⟨x, hx, f⟩ := paired_right' t h
      exact ⟨x, List.mem_cons_of_mem _ hx, f⟩
section
variable {P : Program} {w : World} {K : PySem.W.Frag} {mg : Str → Option Value} {base : Heap} {a : Nat → Addr} {d : Nat → FuncData}
def spTW : Sp := fun vs H Q _ => ∃ (C : Addr → Prop) (n : Nat) (v : V) (d : PyData), vs = [v] ∧ DA C H n v d ∧ termD d = true ∧ Q (.str (termW d)) H
theorem var_int {i : Int} (h : termD (.tuple [.int i]) = true) : -(10 ^ 30) < i ∧ i < 10 ^ 30 := by
  have h : varD (.tuple [.int i]) = true := h
  have h := of_decide_eq_true h
  omega
theorem val_int {i : Int} (h : termD (.int i) = true) : -(10 ^ 30) < i ∧ i < 10 ^ 30 := by
  unfold termD at h
  rw [Bool.or_eq_true] at h
  rcases h with h | h
  · have h := of_decide_eq_true h
    omega
  · cases h
def WV (v : V) (s : Str) : Prop := (v = .str s ∨ ∃ i, v = .int i ∧ s = nT i ∧ i.natAbs.log2 < 1920) ∧ s.length ≤ 1000
theorem join_len {ws : List Str} (h : ∀ s ∈ ws, s.length ≤ 1000) : (ws.map (·.length)).sum ≤ 1000 * ws.length := by
  induction ws with
  | nil => exact Nat.le_refl _
  | cons s ws ih =>
    rw [List.map_cons, List.sum_cons, List.length_cons]
    have h1 := h s (by simp)
    have h2 := ih fun x hx => h x (by simp [hx])
    omega
def spLine (K : PySem.W.Frag) : Sp := fun vs H Q _ => ∃ (p : Addr) (xs : List V) (ws : List Str), vs = [.ref p] ∧ SqL K H p xs ∧ Paired WV xs ws ∧ xs.length ≤ 100 ∧ ∀ H', Same H H' → Q (.str (joinS ws)) H'
theorem ok_line (T : Txt K mg a d) : FnOk P w K mg base CX0 1 (a 61) (d 61) ["words"] (spLine K) := by
  refine T.F61.ok sc__line (fun vs H Q E h => ?_) (fun cdv A outer s H vs Q E hr h => ?_)
  · obtain ⟨p, xs, ws, rfl, _⟩ := h
    rfl
  · obtain ⟨p, xs, ws, rfl, hS, pr, hl, q⟩ := h
    refine ⟨_, (pss_one (ps_ret (pe_join pe_str (pe_lc (own := [("word", 1)]) rfl sc__line.nd (pi_list (pv 0)) (blkOk_by (N := ["words", "word"]) (sc := defScope s__line) (by decide +kernel)) (fun _ _ _ _ _ => pg_name (i := 1) sc__line.nd rfl (.inl rfl)) (fun _ _ _ _ _ => pts_nil) (fun _ _ _ _ _ => (pe_callTy (T := "str")  (call_orC SkE.call_str_str call_str_int) (by rfl) T.z_str (by decide +kernel) (pa_cons (pv 1) pa_nil))))))), ?_⟩
    have hlen := Paired.length pr
    refine ⟨⟨_, rfl⟩, _, rfl, p, rfl, ⟨_, hS⟩, fun D hD => ?_⟩
    refine lc_list (K := K) (a := p) (xs := xs) (fun i H' => H' D = some (.lst ((ws.take i).map V.str)) ∧ Same H H') ⟨upd_same, same_upd hD⟩ (fun i H' _ hp => hp.2.seq hS) (fun i x H' hx hp => ?_) (fun H' hp => ?_)
    · obtain ⟨e, he, hxe⟩ := paired_at pr hx
      have li : i < xs.length := (List.getElem?_eq_some_iff.mp hx).1
      have fin : H' D = some (.lst ((ws.take i).map V.str)) ∧ ((ws.take i).map V.str).length < sizeLine ∧ upd H' D (.lst ((ws.take i).map V.str ++ [.str e])) D = some (.lst ((ws.take (i + 1)).map V.str)) ∧ Same H (upd H' D (.lst ((ws.take i).map V.str ++ [.str e]))) := by
        refine ⟨hp.1, ?_, ?_, fun b o eb => ?_⟩
        · rw [List.length_map, List.length_take]
          exact small1000 (by omega)
        · rw [map_take he]
          exact upd_same
        · rw [upd_ne (ne_of_none eb hD)]
          exact hp.2 b o eb
      obtain ⟨hxe, _⟩ := hxe
      rcases hxe with rfl | ⟨i', rfl, rfl, hb⟩
      · exact ⟨rfl, _, rfl, .inl ⟨_, rfl, _, fin⟩⟩
      · exact ⟨rfl, _, rfl, .inr ⟨_, rfl, hb, _, fin⟩⟩
    · obtain ⟨h1, h2⟩ := hp
      rw [hlen, List.take_length] at h1
      have wl : ∀ s ∈ ws, s.length ≤ 1000 := fun s hs => by
        obtain ⟨x, _, hx⟩ := paired_right' pr hs
        exact hx.2
      refine ⟨_, D, ws, rfl, rfl, .inl (.of h1), ?_, ?_⟩
      · have := join_len wl
        show _ + ws.length * 1 ≤ 16777216
        omega
      · have q1 := q H' h2
        unfold joinS at q1
        rw [TL.join_eq]
        exact q1
end
def splitW (s : Str) : List Str := Txt.split s " "
theorem split_joinS {ws : List Str} (hne : ws ≠ []) (h : ∀ w ∈ ws, SgOk w) : splitW (joinS ws) = ws := by
  unfold splitW joinS
  rw [← TL.join_eq]
  exact TL.split_join (s := 32) (S := []) (by decide +kernel) (by decide +kernel) hne fun p hp c => (((h p hp).2 32 c).2 rfl)
def LineOk (s : Str) : Prop := s.length ≤ 10000 ∧ (splitW s).length ≤ 200 ∧ ∀ x ∈ splitW s, x.length ≤ 1000 ∧ Low x
theorem joinS_len : ∀ {ws : List Str}, (∀ x ∈ ws, x.length ≤ 40) → (joinS ws).length ≤ 41 * ws.length
  | [], _ => Nat.zero_le _
  | [x], h => by
    have := h x (by simp)
    show x.length ≤ 41
    omega
  | x :: z :: r, h => by
    have h1 := h x (by simp)
    have h2 := joinS_len (ws := z :: r) fun y hy => h y (by simp [hy])
    show (x ++ " " ++ joinS (z :: r)).length ≤ _
    rw [len_app, len_app, show (" " : Str).length = 1 from rfl, List.length_cons]
    omega
theorem lineok {ws : List Str} (hne : ws ≠ []) (l : ws.length ≤ 20) (h : ∀ x ∈ ws, SgOk x) : LineOk (joinS ws) := by
  have h1 := joinS_len fun x hx => (h x hx).1
  unfold LineOk
  rw [split_joinS hne h]
  exact ⟨by omega, by omega, fun x hx => ⟨by have := (h x hx).1; omega, fun c hc => ((h x hx).2 c hc).1⟩⟩
theorem strs_all {K : PySem.W.Frag} {H : Hp} : ∀ {ls : List Str}, DpAll K H (ls.map V.str) (ls.map PyData.str)
  | [] => .nil
  | _ :: _ => .cons (.str _) strs_all
theorem strs_lay : ∀ {ls : List Str}, (∀ l ∈ ls, Low l) → PyData.canLayAll0 (ls.map PyData.str) = true ∧ PyData.depthAll (ls.map PyData.str) = 0
  | [], _ => ⟨rfl, rfl⟩
  | l :: ls, h => by
    obtain ⟨h1, h2⟩ := strs_lay (ls := ls) fun x hx => h x (by simp [hx])
    have h3 := low_ok (h l (by simp))
    constructor
    · rw [List.map_cons]
      simp only [PyData.canLayAll0, PyData.canLay0, h1, h3, Bool.and_self]
    · rw [List.map_cons]
      simp only [PyData.depthAll, PyData.depth, h2]
      rfl
theorem strs_dp {K : PySem.W.Frag} {H : Hp} {p : Addr} {ls : List Str} (e : H p = some (.lst (ls.map V.str))) (h : ∀ l ∈ ls, Low l) : Dp K H (.ref p) (.list (ls.map PyData.str)) ∧ SeqAt.shaped (.list (ls.map PyData.str)) = true ∧ PyData.eqv (.list (ls.map PyData.str)) (.list (ls.map PyData.str)) = true := by
  obtain ⟨h1, h2⟩ := strs_lay h
  have c : (PyData.list (ls.map PyData.str)).canLay0 = true := by simp only [PyData.canLay0, h1]
  refine ⟨.lst (.of e) strs_all, ?_, PySem.SeqAt.eqv_refl _ c⟩
  unfold SeqAt.shaped
  rw [c, Bool.true_and]
  exact decide_eq_true (by simp only [PyData.depth, h2]; decide)
theorem joinS_low : ∀ {ws : List Str}, (∀ x ∈ ws, SgOk x) → Low (joinS ws)
  | [], _ => by
    intro c hc
    have h : (joinS []).cps.toList = [] := by decide +kernel
    rw [h] at hc
    cases hc
  | [x], h => fun c hc => ((h x (by simp)).2 c hc).1
  | x :: z :: r, h => by
    have ih := joinS_low (ws := z :: r) fun y hy => h y (by simp [hy])
    intro c hc
    have hc : c ∈ (x ++ " " ++ joinS (z :: r)).cps.toList := hc
    rw [cps_app, cps_app] at hc
    rcases List.mem_append.mp hc with hc | hc
    · rcases List.mem_append.mp hc with hc | hc
      · exact ((h x (by simp)).2 c hc).1
      · have h32 : (" " : Str).cps.toList = [32] := by decide +kernel
        rw [h32] at hc
        rw [List.mem_singleton.mp hc]
        decide
    · exact ih c hc
/-! ### an error with one field -/
def spI1 (fld : Str) (C : Addr) : Sp := fun vs H Q _ => ∃ (x : Addr) (v : V), vs = [.ref x, v] ∧ H x = some (exo x C none) ∧ ∀ dx, H dx = none → dx ≠ x → Q .non (upd (upd H dx (exd dx [(fld, v)])) x (exo x C (some dx)))
/-- how C(v) goes out: its dict dx, new -/
def Er1 (fld : Str) (C : Addr) (v : V) (H : Hp) (E : XK) : Prop := ∀ dx H', H dx = none → H' dx = some (.xd [(fld, v)]) → Same H H' → E (.ref C) (some dx) H'
theorem er1_raise {fld : Str} {C : Addr} {v : V} {H : Hp} {E : XK} (k : Er1 fld C v H E) : ([v] : List V).length ≤ 1000 ∧ ∀ x, H x = none → spI1 fld C (.ref x :: ([v] ++ [])) (upd H x (exo x C none))
    (fun u H2 => u = .non ∧ ∃ (dd : Addr) (fs : List (Str × V)), H2 x = some (exo x C (some dd)) ∧ H2 dd = some (exd dd fs) ∧ H dd = none ∧ E (.ref C) (some dd) (upd (del H2 x) dd (.xd fs))) (fun _ _ _ => False) := by
  refine ⟨by show 1 ≤ 1000; decide, fun x hx => ⟨x, v, rfl, upd_same, fun dx hdx ne => ⟨rfl, dx, _, upd_same, by rw [upd_ne ne]; exact upd_same, ?_, ?_⟩⟩⟩
  · rw [upd_ne ne] at hdx
    exact hdx
  · rw [upd_ne ne] at hdx
    refine k dx _ hdx upd_same fun b o e => ?_
    have nb : b ≠ x := ne_of_none e hx
    have nd : b ≠ dx := ne_of_none e hdx
    rw [upd_ne nd, del_ne nb, upd_ne nb, upd_ne nd, upd_ne nb]
    exact e
/-! ### the forms of lines -/
def nameO (s : Str) : Option PyData := if wordB s = true then some (.str s) else none
def numD (s : Str) : Option PyData := (numO s).map .int
def rd1 : List (Str → Option PyData) → List Str → Option (List PyData)
  | [], _ => some []
  | _ :: _, [] => some []
  | g :: gs, s :: ss => match g s with
    | none => none
    | some d => (rd1 gs ss).map (d :: ·)
def readO (gs : List (Str → Option PyData)) (more : Option (Str → Option PyData)) (ws : List Str) : Option (List PyData) :=
  if ws.length < gs.length then none else match more with
    | none => if gs.length < ws.length then none else rd1 gs ws
    | some g => rd1 (gs ++ List.replicate (ws.length - gs.length) g) ws
section
variable {P : Program} {w : World} {K : PySem.W.Frag} {mg : Str → Option Value} {base : Heap} {a : Nat → Addr} {d : Nat → FuncData}
def RdS (a : Nat → Addr) : Addr → Sp → Prop := fun f sp => (f = a 51 ∧ sp = spRdr nameO) ∨ (f = a 52 ∧ sp = spRdr numD) ∨ (f = a 54 ∧ sp = spRdr itemO)
def RdF (a : Nat → Addr) (v : V) (g : Str → Option PyData) : Prop := ∃ f, v = .ref f ∧ RdS a f (spRdr g)
theorem held_rd (T : Txt K mg a d) : ∀ f sp, RdS a f sp → HeldX P w K mg base CX0 4 f sp := by
  rintro f sp (⟨rfl, rfl⟩ | ⟨rfl, rfl⟩ | ⟨rfl, rfl⟩)
  · refine ⟨_, _, ((ok_name T).mono (by decide)).imp (fun vs H Q E h => ?_), T.F51.kp, T.b51⟩
    obtain ⟨s, rfl, hl, hc, q0, q⟩ := h
    refine ⟨s, rfl, hl, hc, fun H' s' => ?_⟩
    by_cases e : wordB s = true
    · rw [if_pos e]
      exact q (.str s) (if_pos e) _ H' (fun C _ => Sc.da (.str s hl hc)) (fun z => nomatch z) s'
    · rw [if_neg e]
      exact q0 (if_neg e) H' s'
  · refine ⟨_, _, ((ok_number T).mono (by decide)).imp (fun vs H Q E h => ?_), T.F52.kp, T.b52⟩
    obtain ⟨s, rfl, hl, hc, q0, q⟩ := h
    refine ⟨s, rfl, hl, fun H' s' => ?_⟩
    cases e : numO s with
    | none => exact q0 (by unfold numD; rw [e]; rfl) H' s'
    | some n => exact q (.int n) (by unfold numD; rw [e]; rfl) _ H' (fun C _ => Sc.da (.int n)) (fun z => nomatch z) s'
  · exact ⟨_, _, ok_item3 T, T.F54.kp, T.b54⟩
abbrev Rdr := Str → Option PyData
def FormAt (K : PySem.W.Frag) (a : Nat → Addr) (H : Hp) (xf : V) : Option (List Rdr × Option Rdr) → Prop
  | none => xf = .non
  | some (gs, more) => ∃ (F u : Addr) (mv : V) (rs : List V), xf = .ref F ∧ SqT K H F [.ref u, mv] ∧ SqT K H u rs ∧ Paired (RdF a) rs gs ∧ (match more with
    | none => mv = .non
    | some g => RdF a mv g) ∧ gs.length ≤ 5
def readF (fo : Option (List Rdr × Option Rdr)) (ws : List Str) : Option (List PyData) := match fo with
  | none => none
  | some f => readO f.1 f.2 ws
def spRead (a : Nat → Addr) (K : PySem.W.Frag) : Sp := fun vs H Q _ => ∃ (xf : V) (W : Addr) (fo : Option (List Rdr × Option Rdr)) (ws : List Str), vs = [xf, .ref W] ∧ FormAt K a H xf fo ∧ H W = some (.lst (ws.map V.str)) ∧ (∀ s ∈ ws, s.length ≤ 1000 ∧ Low s) ∧ ws.length ≤ 200 ∧
  (readF fo ws = none → ∀ H', Same H H' → Q .non H') ∧ ∀ ds, readF fo ws = some ds → ∀ r xs H', H' r = some (.lst xs) → H r = none → (∀ C, Occ C H → Paired (DA C H' 1) xs ds) → Same H H' → Q (.ref r) H'
theorem paired_rep2 {α β : Type} {F : α → β → Prop} {x : α} {d : β} (h : F x d) : ∀ n : Nat, Paired F (List.replicate n [x]).flatten (List.replicate n d)
  | 0 => .nil
  | n + 1 => by
    rw [List.replicate_succ, List.replicate_succ, List.flatten_cons]
    exact .cons h (paired_rep2 h n)
theorem SqT.same {K : PySem.W.Frag} {H H' : Hp} {a : Addr} {xs : List V} (s : Same H H') (h : SqT K H a xs) : SqT K H' a xs := h.imp (fun r => r.imp (fun e => s _ _ e) (fun ⟨o, e⟩ => ⟨o, s _ _ e⟩)) id
theorem gName_run {i : Nat} {v : V} {σ : L2.St} {H : Hp} {Q : L2.St → Hp → Prop} (h : Q (σ.set i (some v)) H) : gName i v σ H Q := h
theorem rd1_take {gs : List (Str → Option PyData)} {ws : List Str} : ∀ {i : Nat} {ds : List PyData} {g : Str → Option PyData} {s : Str}, rd1 (gs.take i) (ws.take i) = some ds → gs[i]? = some g → ws[i]? = some s → (g s = none → rd1 gs ws = none) ∧ ∀ d, g s = some d → rd1 (gs.take (i + 1)) (ws.take (i + 1)) = some (ds ++ [d]) := by
  induction gs generalizing ws with
  | nil => intro i ds g s _ h; cases h
  | cons g0 gs ih =>
    intro i ds g s h hg hs
    cases ws with
    | nil => cases hs
    | cons s0 ss =>
      cases i with
      | zero =>
        cases hg
        cases hs
        cases h
        refine ⟨fun e => ?_, fun d e => ?_⟩
        · show (match g0 s with | none => none | some d => (rd1 gs ss).map (d :: ·)) = none
          rw [e]
        · show (match g0 s with | none => none | some d => (rd1 [] []).map (d :: ·)) = some [d]
          rw [e]
          rfl
      | succ i =>
        have h : (match g0 s0 with | none => none | some d => (rd1 (gs.take i) (ss.take i)).map (d :: ·)) = some ds := h
        cases e0 : g0 s0 with
        | none => rw [e0] at h; cases h
        | some d0 =>
          rw [e0] at h
          obtain ⟨ds', e', rfl⟩ := Option.map_eq_some_iff.mp h
          obtain ⟨i1, i2⟩ := ih e' hg hs
          refine ⟨fun e => ?_, fun d e => ?_⟩
          · show (match g0 s0 with | none => none | some d => (rd1 gs ss).map (d :: ·)) = none
            rw [e0, i1 e]
            rfl
          · show (match g0 s0 with | none => none | some d => (rd1 (gs.take (i + 1)) (ss.take (i + 1))).map (d :: ·)) = some (d0 :: ds' ++ [d])
            rw [e0, i2 d e]
            rfl
theorem ok_read (T : Txt K mg a d) : FnOk P w K mg base CX0 6 (a 56) (d 56) ["form", "words"] (spRead a K) := by
  have HRD : ∀ f sp, RdS a f sp → HeldX P w K mg base CX0 4 f sp := held_rd T
  refine T.F56.ok sc__read (fun vs H Q E h => ?_) (fun cdv A outer s H vs Q E hr h => ?_)
  · obtain ⟨xf, W, fo, ws, rfl, _⟩ := h
    rfl
  · obtain ⟨xf, W, fo, ws, rfl, hfo, hW, hws, l200, q0, q⟩ := h
    refine ⟨_, (pss_cons (ps_if (pt_cmpR op_isN (pv 0) pe_non (nomark _))
    (pss_one (ps_ret pe_non))
    pss_nil)
  (pss_cons (ps_asg (pv 0) (pg_tup rfl (pgs_cons (pg_name (i := 2) sc__read.nd rfl (.inl rfl)) (pgs_cons (pg_name (i := 3) sc__read.nd rfl (.inl rfl)) pgs_nil))))
  (pss_cons (ps_set (i := 4) sc__read.nd rfl (.inl rfl) (pe_op op_sub (pe_callB (id := "len")  call_len_seq (by rfl) T.z_len (by decide +kernel) (pa_cons (pv 1) pa_nil)) (pe_callB (id := "len")  call_len_seq (by rfl) T.z_len (by decide +kernel) (pa_cons (pv 2) pa_nil))))
  (pss_cons (ps_if (PW.pt (pw_or (pt_cmpR op_lt (pv 4) pe_int (nomark _)) (pw_or1 (PW.pt (pw_and (pt_cmpR op_isN (pv 3) pe_non (nomark _)) (pw_and1 (pt_cmpR op_gt (pv 4) pe_int (nomark _))))))))
    (pss_one (ps_ret pe_non))
    pss_nil)
  (pss_cons (ps_set (i := 5) sc__read.nd rfl (.inl rfl) (pe_lst pa_nil))
  (pss_cons (ps_for PassesOwn.never rfl (pi_zip (by rfl) T.z_zip (pa_cons (pe_lst (StX.pa_star (pv 2) (StX.pa_star (pe_op op_rep (pe_lst (pa_cons (pv 3) pa_nil)) (pv 4)) pa_nil))) (pa_cons (pv 1) pa_nil))) (pg_tup rfl (pgs_cons (pg_name (i := 6) sc__read.nd rfl (.inl rfl)) (pgs_cons (pg_name (i := 7) sc__read.nd rfl (.inl rfl)) pgs_nil)))
    (pss_cons (ps_set (i := 8) sc__read.nd rfl (.inl rfl) (pe_callAX (i := 6) HRD (hr.mono (by decide)) (by rfl) (.inl rfl) pass0 (pa_cons (pv 7) pa_nil)))
      (pss_cons (ps_if (pt_cmpR op_isN (pv 8) pe_non (nomark _))
        (pss_one (ps_ret pe_non))
        pss_nil)
      (pss_one (ps_expr (pe_bm PySem.F.plainAttrs_list PySem.F.slot_list_append PySem.F.type_list_append mt_append (pv 5) (pa_cons (pv 8) pa_nil)))))))
  (pss_one (ps_ret (pv 5))))))))), ?_⟩
    match fo, hfo with
    | none, hfo =>
      have hfo : xf = .non := hfo
      subst hfo
      exact ⟨_, rfl, rfl, _, rfl, ite_d (fun _ => q0 rfl H (Same.refl H)) (fun e => absurd rfl e)⟩
    | some (gs, more), hfo =>
    obtain ⟨F, u, mv, rs, rfl, hF, hu, prs, hm, g5⟩ := hfo
    have q0 : readO gs more ws = none → ∀ H', Same H H' → Q .non H' := q0
    have q : ∀ ds, readO gs more ws = some ds → ∀ r xs H', H' r = some (.lst xs) → H r = none → (∀ C, Occ C H → Paired (DA C H' 1) xs ds) → Same H H' → Q (.ref r) H' := q
    have hlr := Paired.length prs
    refine ⟨_, rfl, rfl, _, rfl, ite_d (fun e => nomatch e) (fun _ => ?_)⟩
    refine ⟨_, rfl, F, _, rfl, hF, rfl, _, _, rfl, _, _, rfl, rfl, ?_⟩
    refine ⟨_, rfl, W, _, rfl, .inl (.of hW), _, rfl, u, _, rfl, .inr hu, _, _, rfl, rfl, ?_⟩
    rw [List.length_map]
    refine gName_run ?_
    -- what the forms say
    have cases3 : (readO gs more ws = none ∧ (ws.length < gs.length ∨ (mv = .non ∧ gs.length < ws.length))) ∨ (gs.length ≤ ws.length ∧ (mv = .non → ws.length ≤ gs.length) ∧ ∃ g2, Paired (RdF a) (rs ++ ((List.replicate (ws.length - gs.length) [mv]).flatten ++ [])) g2 ∧ g2.length = ws.length ∧ readO gs more ws = rd1 g2 ws) := by
      unfold readO
      by_cases h1 : ws.length < gs.length
      · exact .inl ⟨if_pos h1, .inl h1⟩
      · rw [if_neg h1]
        cases more with
        | none =>
          by_cases h2 : gs.length < ws.length
          · exact .inl ⟨if_pos h2, .inr ⟨hm, h2⟩⟩
          · refine .inr ⟨by omega, fun _ => by omega, gs, ?_, by omega, if_neg h2⟩
            rw [show ws.length - gs.length = 0 by omega]
            exact (List.append_nil rs).symm ▸ prs
        | some g =>
          obtain ⟨f0, hf0, hf1⟩ := (show RdF a mv g from hm)
          refine .inr ⟨by omega, (fun e => by rw [hf0] at e; cases e), _, paired_app prs ?_, ?_, rfl⟩
          · rw [List.append_nil]
            exact paired_rep2 ⟨f0, hf0, hf1⟩ _
          · rw [List.length_append, List.length_replicate]
            omega
    rcases cases3 with ⟨hn, h2⟩ | ⟨hge, hnn, g2, p2, l2, e2⟩
    · by_cases h1 : ws.length < gs.length
      · refine ⟨_, rfl, _, _, rfl, rfl, _, rfl, ?_⟩
        refine ite_d (fun _ => ?_) (fun e => absurd (by omega) e)
        exact q0 hn H (Same.refl H)
      · obtain ⟨rfl, h3⟩ := h2.resolve_left h1
        refine ⟨_, rfl, _, _, rfl, rfl, _, rfl, ?_⟩
        refine ite_d (fun e => absurd e (by omega)) (fun _ => ?_)
        refine ⟨_, rfl, rfl, _, rfl, ?_⟩
        refine ⟨_, rfl, _, _, rfl, rfl, _, rfl, ?_⟩
        refine ite_d (fun _ => ?_) (fun e => absurd (by omega) e)
        exact q0 hn H (Same.refl H)
    · dsimp only
      refine seq_cut (t := tIfS _ _ _) fun N hN => ?_
      suffices rest : N [some (.ref F), some (.ref W), some (.ref u), some mv, some (.int ((ws.length : Int) - rs.length)), none, none, none, none] H by
        refine ⟨_, rfl, _, _, rfl, rfl, _, rfl, ?_⟩
        refine ite_d (fun e => absurd e (by omega)) (fun _ => ?_)
        refine ⟨_, rfl, rfl, _, rfl, ?_⟩
        refine ite_d (fun e => ?_) (fun _ => rest)
        refine ⟨_, rfl, _, _, rfl, rfl, _, rfl, ?_⟩
        exact ite_d (fun e' => absurd (hnn e) (by omega)) (fun _ => rest)
      refine hN _ _ (seq_cut (t := tAsg _ _) fun N2 hN2 => ?_)
      refine ⟨Nat.zero_le _, fun S hS => gName_run (hN2 _ _ ?_)⟩
      have hSv : upd H S (.lst []) S = some (.lst []) := upd_same
      have s1 := same_upd (o := .lst []) hS
      generalize upd H S (.lst []) = H1 at hSv s1 ⊢
      refine seq_cut (t := tFor _ _ _) fun N3 hN3 => ?_
      have hn : (((ws.length : Int) - rs.length).toNat) = ws.length - gs.length := by omega
      refine ⟨_, rfl, u, rs, rfl, .inl (SqT.same s1 hu), _, rfl, Nat.le_of_lt (small1000 (by rw [List.length_singleton]; omega)), fun p1 h1 => ⟨_, rfl, p1, _, [mv], rfl, rfl, upd_same, by omega, by omega, ?_, fun p4 h4 => ?_⟩⟩
      · rw [List.length_singleton, hn]
        exact Nat.le_of_lt (small1000 (by omega))
      rw [hn]
      have z1 := same_upd (o := .lst [mv]) h1
      have z4 := same_upd (o := .lst (List.replicate (ws.length - gs.length) [mv]).flatten) h4
      refine ⟨p4, _, rfl, .inr (.of upd_same), ?_, fun p3 h3 => ?_⟩
      · rw [Paired.length p2, l2]
        exact Nat.le_of_lt (small1000 (by omega))
      have z3 := same_upd (o := .lst (rs ++ ((List.replicate (ws.length - gs.length) [mv]).flatten ++ []))) h3
      generalize rs ++ ((List.replicate (ws.length - gs.length) [mv]).flatten ++ []) = X3 at p2 z3 ⊢
      have s2 := (z1.trans z4).trans z3
      have eX : upd (upd (upd H1 p1 (.lst [mv])) p4 (.lst (List.replicate (ws.length - gs.length) [mv]).flatten)) p3 (.lst X3) p3 = some (.lst X3) := upd_same
      generalize upd (upd (upd H1 p1 (.lst [mv])) p4 (.lst (List.replicate (ws.length - gs.length) [mv]).flatten)) p3 (.lst X3) = H2 at s2 eX ⊢
      have nS3 : p3 ≠ S := fun e => by
        have h5 : H1 p3 = none := by
          cases h6 : H1 p3 with
          | none => rfl
          | some o => rw [z4 _ _ (z1 _ _ h6)] at h3; cases h3
        rw [e, hSv] at h5
        cases h5
      have nSW : W ≠ S := ne_of_none hW hS
      have lX := Paired.length p2
      refine ⟨_, rfl, p3, W, X3, ws.map V.str, rfl, .of eX, .of (s2 _ _ (s1 _ _ hW)), for_it (walk_zip (K := K) (a := p3) (b := W) (xs := X3) (ys := ws.map V.str) (n := ws.length) (by rw [List.length_map]; omega)) (fun i σ G => ∃ (ys : List V) (ds : List PyData) (y6 y7 y8 : Option V), σ = [some (.ref F), some (.ref W), some (.ref u), some mv, some (.int ((ws.length : Int) - rs.length)), some (.ref S), y6, y7, y8] ∧ G S = some (.lst ys) ∧ rd1 (g2.take i) (ws.take i) = some ds ∧ (∀ C, Occ C H → Paired (DA (fun x => C x ∨ x = S) G 1) ys ds) ∧ ys.length = i ∧ ∀ b o, b ≠ S → H2 b = some o → G b = some o)
        ⟨[], [], none, none, none, rfl, s2 _ _ hSv, rfl, fun _ _ => .nil, rfl, fun _ _ _ e => e⟩ (fun i σ G _ hp => ?_) (fun i v σ G G' li hp hy => ?_) (fun σ G hp => ?_)⟩
      · obtain ⟨_, _, _, _, _, _, _, _, _, _, o⟩ := hp
        exact ⟨.of (o _ _ nS3 eX), .of (o _ _ nSW (s2 _ _ (s1 _ _ hW)))⟩
      · obtain ⟨ys, ds, y6, y7, y8, rfl, hGS, hd, hD, hl, o⟩ := hp
        obtain ⟨T', x, y, rfl, hT, rfl, hx, hy⟩ := hy
        obtain ⟨s, hs, rfl⟩ := map_at hy
        obtain ⟨g, hg, f, rfl, hf⟩ := paired_at p2 hx
        have zT := same_upd (o := .tup [.ref f, .str s]) hT
        have eT : upd G T' (.tup [.ref f, .str s]) T' = some (.tup [.ref f, .str s]) := upd_same
        generalize upd G T' (.tup [.ref f, .str s]) = G' at zT eT ⊢
        have sHG : Same H G' := fun b o' e => zT _ _ (o _ _ (ne_of_none e hS) (s2 _ _ (s1 _ _ e)))
        refine ⟨T', _, rfl, .of eT, rfl, _, _, rfl, _, _, rfl, rfl, ?_⟩
        have hsm := hws s (List.mem_of_getElem? hs)
        refine ⟨f, _, rfl, hf, _, rfl, s, rfl, hsm.1, hsm.2, fun e G3 s3 => ?_, fun d e v G3 hv nn s3 => ?_⟩
        · refine ⟨_, rfl, rfl, _, rfl, ite_d (fun _ => ?_) (fun e => absurd rfl e)⟩
          exact q0 (e2.trans ((rd1_take hd hg hs).1 e)) _ (sHG.trans s3)
        · refine ⟨_, rfl, rfl, _, rfl, ite_d (fun e => absurd e nn) (fun _ => ?_)⟩
          have hS3 := s3 _ _ (zT _ _ hGS)
          refine ⟨_, rfl, .inl ⟨rfl, _, .of hS3⟩, _, rfl, S, _, _, rfl, rfl, hS3, small1000 (by omega), ?_⟩
          refine ⟨_, _, _, _, _, rfl, upd_same, (rd1_take hd hg hs).2 d e, fun C hC => ?_, by rw [List.length_append, hl]; rfl, fun b o' nb e5 => ?_⟩
          · have kp : ∀ b o', ¬ (C b ∨ b = S) → G3 b = some o' → upd G3 S (.lst (ys ++ [v])) b = some o' := fun b o' nb e5 => by
              rw [upd_ne fun e => nb (.inr e)]
              exact e5
            refine paired_snoc (paired_imp (fun a b h => ((h.same zT).same s3).keep kp) (hD C hC)) ((hv _ ?_).keep kp)
            rintro x (hx | rfl)
            · exact (hC.same sHG) x hx
            · exact ⟨_, zT _ _ hGS⟩
          · rw [upd_ne nb]
            exact s3 _ _ (zT _ _ (o _ _ nb e5))
      · obtain ⟨ys, ds, y6, y7, y8, rfl, hGS, hd, hD, hl, o⟩ := hp
        refine hN3 _ _ ⟨_, rfl, ?_⟩
        rw [List.take_of_length_le (by omega), List.take_of_length_le (Nat.le_refl _)] at hd
        exact q ds (e2.trans hd) S ys G hGS hS (fun C hC => paired_imp (fun a b h => h.weak fun _ => .inl) (hD C hC)) fun b o' e => o _ _ (ne_of_none e hS) (s2 _ _ (s1 _ _ e))
theorem ok_ilinit (T : Txt K mg a d) : FnOk P w K mg base CX0 1 (a 1600) (d 1600) ["self", "at"] (spI1 "at" (a 6)) := by
  refine T.F1600.ok sc_InvalidLine___init__ (fun vs H Q E h => ?_) (fun cdv A outer s H vs Q E hr h => ?_)
  · obtain ⟨x, v, rfl, _⟩ := h
    rfl
  · obtain ⟨x, v, rfl, hx, q⟩ := h
    exact ⟨_, (pss_one (ps_ost (pv 0) (pv 1))), _, rfl, _, rfl, x, _, rfl, T.x_6, T.no_6_at, .inl ⟨hx, fun dx hdx ne => q dx hdx ne⟩⟩
def spReadAt (a : Nat → Addr) (K : PySem.W.Frag) (CI : Addr) : Sp := fun vs H Q E => ∃ (at' xf : V) (W : Addr) (fo : Option (List Rdr × Option Rdr)) (ws : List Str), vs = [at', xf, .ref W] ∧ FormAt K a H xf fo ∧ H W = some (.lst (ws.map V.str)) ∧ (∀ s ∈ ws, s.length ≤ 1000 ∧ Low s) ∧ ws.length ≤ 200 ∧
  (readF fo ws = none → ∀ H', Same H H' → Er1 "at" CI at' H' E) ∧ ∀ ds, readF fo ws = some ds → ∀ r xs H', H' r = some (.lst xs) → H r = none → (∀ C, Occ C H → Paired (DA C H' 1) xs ds) → Same H H' → Q (.ref r) H'
theorem ok_read_at (T : Txt K mg a d) : FnOk P w K mg base (L2.CX P w) 8 (a 57) (d 57) ["at", "form", "words"] (spReadAt a K (a 6)) := by
  have G56 : FnOk P w K mg base CX0 6 (a 56) (d 56) ["form", "words"] (spRead a K) := ok_read T
  have G1600 : FnOk P w K mg base CX0 1 (a 1600) (d 1600) ["self", "at"] (spI1 "at" (a 6)) := ok_ilinit T
  refine T.F57.okX sc__read_at (fun vs H Q E h => ?_) (fun cdv A outer s H vs Q E hr h => ?_)
  · obtain ⟨at', xf, W, fo, ws, rfl, _⟩ := h
    rfl
  · obtain ⟨at', xf, W, fo, ws, rfl, hfo, hW, hws, l2, q0, q⟩ := h
    refine ⟨_, (pss_cons (ps_set (i := 3) sc__read_at.nd rfl (.inl rfl) (pe_call G56 (hr.mono (by decide)) (by rfl) T.g56 T.F56.kp T.b56 .nil pass0 (pa_cons (pv 1) (pa_cons (pv 2) pa_nil))))
  (pss_cons (ps_if (pt_cmpR op_isN (pv 3) pe_non (nomark _))
    (pss_one (ps_raise rfl (takes_of rfl rfl rfl rfl) (pmk_oex T.x_6 T.in_6 T.ti_6 G1600 (hr.mono (by decide)) T.b1600 .nil pass0 (by rfl) T.cg_6 (pa_cons (pv 0) pa_nil))))
    pss_nil)
  (pss_one (ps_ret (pv 3))))), ?_⟩
    refine ⟨_, rfl, _, rfl, xf, W, fo, ws, rfl, hfo, hW, hws, l2, fun e H' s' => ?_, fun ds e r xs H' hr1 hr2 hD s' => ?_⟩
    · refine ⟨_, rfl, rfl, _, rfl, ite_d (fun _ => ?_) (fun e => absurd rfl e)⟩
      exact ⟨_, rfl, er1_raise (q0 e _ s')⟩
    · refine ⟨_, rfl, rfl, _, rfl, ite_d (fun e => nomatch e) (fun _ => ?_)⟩
      exact ⟨_, rfl, q ds e r xs H' hr1 hr2 hD s'⟩
end
/-! ### the words of steps -/
def ItW : ItD → Prop
  | .val k => KVal k
  | .idx i => 0 ≤ i ∧ i < 10 ^ 30
def itemW : ItD → Str
  | .val k => "=" ++ termW (keyD k)
  | .idx i => "#" ++ nT i
def StD.words : StD → List Str
  | .start n => ["start", n]
  | .call n o s its => "call" :: n :: o :: s :: its.map itemW
  | .join b n x y => [if b then "both" else "pair", n, x, y]
  | .whr n o i it => ["where", n, o, nT i, itemW it]
  | .take n o its => "take" :: n :: o :: its.map itemW
def lineS (st : StD) : Str := joinS st.words
structure StW (st : StD) : Prop where
  ok : StOk st
  its : ∀ it ∈ st.items, ItW it
  len : st.items.length ≤ 10
theorem keyD_val {k : Key} (h : KVal k) : valD (keyD k) = true := by
  cases k with
  | inl i =>
    refine decide_eq_true ?_
    have e : (10 : Int) ^ 30 - 1 = 999999999999999999999999999999 := by decide
    obtain ⟨h1, h2⟩ := (show -(10 ^ 30 - 1) ≤ i ∧ i ≤ 10 ^ 30 - 1 from h)
    rw [e] at h1 h2
    exact ⟨h1, h2⟩
  | inr s => exact wd_b h
theorem keyD_term {k : Key} (h : KVal k) : termD (keyD k) = true := by
  unfold termD
  rw [keyD_val h]
  rfl
theorem pre_sg {p s : Str} {k : Nat} (hp : p.cps.toList = [k]) (hk : k < 128 ∧ k ≠ 32) (hs : SgOk s) (hl : s.length ≤ 31) : SgOk (p ++ s) := by
  have l1 : p.length = 1 := by
    rw [TL.len_tl]
    show p.cps.toList.length = 1
    rw [hp]
    rfl
  refine ⟨by rw [len_app]; omega, fun c hc => ?_⟩
  rw [app1 hp] at hc
  rcases List.mem_cons.mp hc with rfl | hc
  · exact hk
  · exact hs.2 c hc
theorem keyW_len {k : Key} (h : KVal k) : (termW (keyD k)).length ≤ 31 := by
  cases k with
  | inl i => exact nT_len (val_int (keyD_term h))
  | inr s => exact Nat.le_trans h.2.1 (by decide)
theorem itemW_sg {it : ItD} (h : ItW it) : SgOk (itemW it) := by
  cases it with
  | val k => exact pre_sg (show ("=" : Str).cps.toList = [61] by decide +kernel) (by decide) (termW_sg (keyD_term h)) (keyW_len h)
  | idx i =>
    have h : 0 ≤ i ∧ i < 10 ^ 30 := h
    exact pre_sg (show ("#" : Str).cps.toList = [35] by decide +kernel) (by decide) (nT_sg (by omega)) (nT_len (by omega))
theorem item_back {it : ItD} (h : ItW it) : itemO (itemW it) = some (itD it) := by
  cases it with
  | val k =>
    have tl : (("=" : Str) ++ termW (keyD k)).cps.toList = 61 :: (termW (keyD k)).cps.toList := app1 (by decide +kernel)
    show itemO (("=" : Str) ++ termW (keyD k)) = _
    unfold itemO
    rw [if_neg (by rw [tl]; simp), if_pos (by rw [tl]; rfl), tl]
    show (valO ⟨((termW (keyD k)).cps.toList).toArray⟩).map _ = _
    rw [str_mk, (val_back (keyD_val h)).1]
    rfl
  | idx i =>
    have h : 0 ≤ i ∧ i < 10 ^ 30 := h
    have tl : (("#" : Str) ++ nT i).cps.toList = 35 :: (nT i).cps.toList := app1 (by decide +kernel)
    show itemO (("#" : Str) ++ nT i) = _
    unfold itemO
    rw [if_pos (by rw [tl]; rfl), tl]
    show (numO ⟨((nT i).cps.toList).toArray⟩).map _ = _
    obtain ⟨n, rfl⟩ : ∃ n : Nat, i = n := ⟨i.toNat, by omega⟩
    rw [str_mk, num_nT (by omega)]
    rfl
theorem lit_sgP : ∀ s ∈ (["start", "call", "both", "pair", "where", "take"] : List Str), SgOk s := by
  have h : ((["start", "call", "both", "pair", "where", "take"] : List Str).all fun s => decide (s.length ≤ 40) && s.cps.toList.all fun c => decide (c < 128 ∧ c ≠ 32)) = true := by decide +kernel
  intro s hs
  have h1 := List.all_eq_true.mp h s hs
  rw [Bool.and_eq_true] at h1
  exact ⟨of_decide_eq_true h1.1, fun c hc => of_decide_eq_true (List.all_eq_true.mp h1.2 c hc)⟩
theorem words_sg {st : StD} (h : StW st) : ∀ x ∈ st.words, SgOk x := by
  have hn := h.ok.ns
  have hi := h.its
  intro x hx
  cases st with
  | start n =>
    have hx : x ∈ [("start" : Str), n] := hx
    simp only [List.mem_cons, List.not_mem_nil, or_false] at hx
    rcases hx with rfl | rfl
    · exact lit_sgP _ (by simp)
    · exact wd_sg (hn _ (by simp [StD.ns]))
  | call n o s its =>
    have hx : x ∈ ("call" : Str) :: n :: o :: s :: its.map itemW := hx
    rcases List.mem_cons.mp hx with rfl | hx
    · exact lit_sgP _ (by simp)
    rcases List.mem_cons.mp hx with rfl | hx
    · exact wd_sg (hn _ (by simp [StD.ns]))
    rcases List.mem_cons.mp hx with rfl | hx
    · exact wd_sg (hn _ (by simp [StD.ns]))
    rcases List.mem_cons.mp hx with rfl | hx
    · exact wd_sg (hn _ (by simp [StD.ns]))
    · obtain ⟨it, h1, rfl⟩ := List.mem_map.mp hx
      exact itemW_sg (hi it h1)
  | join b n u y =>
    have hx : x ∈ [(if b then "both" else "pair" : Str), n, u, y] := hx
    simp only [List.mem_cons, List.not_mem_nil, or_false] at hx
    rcases hx with rfl | rfl | rfl | rfl
    · cases b
      · exact lit_sgP "pair" (by simp)
      · exact lit_sgP "both" (by simp)
    · exact wd_sg (hn _ (by simp [StD.ns]))
    · exact wd_sg (hn _ (by simp [StD.ns]))
    · exact wd_sg (hn _ (by simp [StD.ns]))
  | whr n o i it =>
    have hx : x ∈ [("where" : Str), n, o, nT i, itemW it] := hx
    simp only [List.mem_cons, List.not_mem_nil, or_false] at hx
    rcases hx with rfl | rfl | rfl | rfl | rfl
    · exact lit_sgP _ (by simp)
    · exact wd_sg (hn _ (by simp [StD.ns]))
    · exact wd_sg (hn _ (by simp [StD.ns]))
    · have h1 : 0 ≤ i ∧ i < 10 ^ 30 := hi (.idx i) (by simp [StD.items])
      exact nT_sg (by omega)
    · exact itemW_sg (hi it (by simp [StD.items]))
  | take n o its =>
    have hx : x ∈ ("take" : Str) :: n :: o :: its.map itemW := hx
    rcases List.mem_cons.mp hx with rfl | hx
    · exact lit_sgP _ (by simp)
    rcases List.mem_cons.mp hx with rfl | hx
    · exact wd_sg (hn _ (by simp [StD.ns]))
    rcases List.mem_cons.mp hx with rfl | hx
    · exact wd_sg (hn _ (by simp [StD.ns]))
    · obtain ⟨it, h1, rfl⟩ := List.mem_map.mp hx
      exact itemW_sg (hi it h1)
theorem words_len {st : StD} (h : StW st) : st.words.length ≤ 14 ∧ st.words ≠ [] := by
  have hl := h.len
  cases st with
  | start n => exact ⟨by show 2 ≤ 14; decide, fun e => nomatch e⟩
  | call n o s its =>
    have hl : its.length ≤ 10 := hl
    exact ⟨by show (its.map itemW).length + 4 ≤ 14; rw [List.length_map]; omega, fun e => nomatch e⟩
  | join b n u y => exact ⟨by show 4 ≤ 14; decide, fun e => nomatch e⟩
  | whr n o i it => exact ⟨by show 5 ≤ 14; decide, fun e => nomatch e⟩
  | take n o its =>
    have hl : its.length ≤ 10 := hl
    exact ⟨by show (its.map itemW).length + 3 ≤ 14; rw [List.length_map]; omega, fun e => nomatch e⟩
theorem line_low {st : StD} (h : StW st) : Low (lineS st) := joinS_low (words_sg h)
theorem line_ok {st : StD} (h : StW st) : LineOk (lineS st) := lineok (words_len h).2 (Nat.le_trans (words_len h).1 (by decide)) (words_sg h)
theorem line_split {st : StD} (h : StW st) : splitW (lineS st) = st.words := split_joinS (words_len h).2 (words_sg h)
/-! ### what the words say -/
def StD.things : StD → List PyData
  | .start n => [.str n]
  | .call n o s its => .str n :: .str o :: .str s :: its.map itD
  | .join _ n x y => [.str n, .str x, .str y]
  | .whr n o i it => [.str n, .str o, .int i, itD it]
  | .take n o its => .str n :: .str o :: its.map itD
def pforms : List (Str × List Rdr × Option Rdr) := [("start", [nameO], none), ("call", [nameO, nameO, nameO], some itemO), ("both", [nameO, nameO, nameO], none), ("pair", [nameO, nameO, nameO], none), ("where", [nameO, nameO, numD, itemO], none), ("take", [nameO, nameO], some itemO)]
theorem name_back {s : Str} (h : Wd s) : nameO s = some (.str s) := by
  unfold nameO
  exact if_pos (wd_b h)
theorem rd1_items : ∀ {its : List ItD}, (∀ it ∈ its, ItW it) → rd1 (List.replicate its.length itemO) (its.map itemW) = some (its.map itD)
  | [], _ => rfl
  | it :: its, h => by
    show (match itemO (itemW it) with | none => none | some d => (rd1 (List.replicate its.length itemO) (its.map itemW)).map (d :: ·)) = some (itD it :: its.map itD)
    rw [item_back (h it (by simp)), rd1_items fun x hx => h x (by simp [hx])]
    rfl
theorem rd1_cons {g : Rdr} {gs : List Rdr} {s : Str} {ss : List Str} {d : PyData} {ds : List PyData} (h : g s = some d) (h2 : rd1 gs ss = some ds) : rd1 (g :: gs) (s :: ss) = some (d :: ds) := by
  show (match g s with | none => none | some d => (rd1 gs ss).map (d :: ·)) = some (d :: ds)
  rw [h, h2]
  rfl
theorem form_of {st : StD} (h : StW st) : ∃ f, (st.kind, f) ∈ pforms ∧ ∃ r, st.words = st.kind :: r ∧ readO f.1 f.2 r = some st.things := by
  have hn := h.ok.ns
  have hi := h.its
  cases st with
  | start n =>
    refine ⟨([nameO], none), by show ((("start" : Str), _) ∈ pforms); simp [pforms], [n], rfl, ?_⟩
    exact rd1_cons (name_back (hn n (by simp [StD.ns]))) rfl
  | call n o s its =>
    refine ⟨([nameO, nameO, nameO], some itemO), by show ((("call" : Str), _) ∈ pforms); simp [pforms], n :: o :: s :: its.map itemW, rfl, ?_⟩
    show (if (n :: o :: s :: its.map itemW).length < 3 then none else rd1 ([nameO, nameO, nameO] ++ List.replicate ((n :: o :: s :: its.map itemW).length - 3) itemO) (n :: o :: s :: its.map itemW)) = _
    rw [if_neg (by simp only [List.length_cons]; omega)]
    simp only [List.length_cons, List.length_map]
    rw [show its.length + 1 + 1 + 1 - 3 = its.length by omega]
    exact rd1_cons (name_back (hn n (by simp [StD.ns]))) (rd1_cons (name_back (hn o (by simp [StD.ns]))) (rd1_cons (name_back (hn s (by simp [StD.ns]))) (rd1_items hi)))
  | join b n x y =>
    refine ⟨([nameO, nameO, nameO], none), by cases b <;> simp [pforms, StD.kind], [n, x, y], rfl, ?_⟩
    exact rd1_cons (name_back (hn n (by simp [StD.ns]))) (rd1_cons (name_back (hn x (by simp [StD.ns]))) (rd1_cons (name_back (hn y (by simp [StD.ns]))) rfl))
  | whr n o i it =>
    refine ⟨([nameO, nameO, numD, itemO], none), by show ((("where" : Str), _) ∈ pforms); simp [pforms], [n, o, nT i, itemW it], rfl, ?_⟩
    have h1 : 0 ≤ i ∧ i < 10 ^ 30 := hi (.idx i) (by simp [StD.items])
    have hnum : numD (nT i) = some (.int i) := by
      obtain ⟨k, rfl⟩ : ∃ k : Nat, i = k := ⟨i.toNat, by omega⟩
      unfold numD
      rw [num_nT (by omega)]
      rfl
    exact rd1_cons (name_back (hn n (by simp [StD.ns]))) (rd1_cons (name_back (hn o (by simp [StD.ns]))) (rd1_cons hnum (rd1_cons (item_back (hi it (by simp [StD.items]))) rfl)))
  | take n o its =>
    refine ⟨([nameO, nameO], some itemO), by show ((("take" : Str), _) ∈ pforms); simp [pforms], n :: o :: its.map itemW, rfl, ?_⟩
    show (if (n :: o :: its.map itemW).length < 2 then none else rd1 ([nameO, nameO] ++ List.replicate ((n :: o :: its.map itemW).length - 2) itemO) (n :: o :: its.map itemW)) = _
    rw [if_neg (by simp only [List.length_cons]; omega)]
    simp only [List.length_cons, List.length_map]
    rw [show its.length + 1 + 1 - 2 = its.length by omega]
    exact rd1_cons (name_back (hn n (by simp [StD.ns]))) (rd1_cons (name_back (hn o (by simp [StD.ns]))) (rd1_items hi))
section
variable {P : Program} {w : World} {K : PySem.W.Frag} {mg : Str → Option Value} {base : Heap} {a : Nat → Addr} {d : Nat → FuncData}
def spIW : Sp := fun vs H Q _ => ∃ (v : V) (it : ItD), vs = [v] ∧ ItAt H v it ∧ ItW it ∧ Q (.str (itemW it)) H
theorem ok_iw (T : Txt K mg a d) : FnOk P w K mg base CX0 1 (a 62) (d 62) ["item"] spIW := by
  refine T.F62.ok sc__item_word (fun vs H Q E h => ?_) (fun cdv A outer s H vs Q E hr h => ?_)
  · obtain ⟨v, it, rfl, _⟩ := h
    rfl
  · obtain ⟨v, it, rfl, hv, hw, q⟩ := h
    refine ⟨_, (pss_one (ps_ret (pe_ifExp (pt_val (pe_callB (id := "isinstance")  call_isi (by rfl) T.z_isinstance (by decide +kernel) (pa_cons (pv 0) (pa_cons (pe_bltn (v := .ty "tuple") (by rfl) T.z_tuple (by decide +kernel) rfl) pa_nil)))) (pe_op op_add_str pe_str (pe_callTy (T := "str")  (call_orC SkE.call_str_str call_str_int) (by rfl) T.z_str (by decide +kernel) (pa_cons (pe_ix ix_tup (pv 0) pe_int (fun _ _ => rfl)) pa_nil))) (pe_op op_add_str pe_str (pe_callTy (T := "str")  (call_orC SkE.call_str_str call_str_int) (by rfl) T.z_str (by decide +kernel) (pa_cons (pv 0) pa_nil)))))), ?_⟩
    cases it with
    | val k =>
      obtain ⟨p, rfl, hp⟩ := hv
      have ktt : kitB "tuple" "tuple" = some true := by decide +kernel
      have hk : KVal k := hw
      refine ⟨_, rfl, _, _, _, _, _, rfl, .ty _, .base (.tup hp), kit_ty ktt, _, rfl, ifT ?_⟩
      have hlen : 1 + (termW (keyD k)).length ≤ sizeLine := Nat.le_of_lt (small1000 (by have := keyW_len hk; omega))
      cases k with
      | inl i => exact ⟨_, rfl, _, _, _, _, rfl, rfl, .of hp, atI_nat (j := 0) rfl, .inr ⟨_, rfl, big30 (val_int (keyD_term hk)), _, _, rfl, rfl, hlen, q⟩⟩
      | inr s => exact ⟨_, rfl, _, _, _, _, rfl, rfl, .of hp, atI_nat (j := 0) rfl, .inl ⟨_, rfl, _, _, rfl, rfl, hlen, q⟩⟩
    | idx i =>
      have hv : v = .int i := hv
      subst hv
      have kit_ : kitB "int" "tuple" = some false := by decide +kernel
      have hk : 0 ≤ i ∧ i < 10 ^ 30 := hw
      refine ⟨_, rfl, _, _, _, _, _, rfl, .ty _, .base (.int i), kit_ty kit_, _, rfl, ifF ?_⟩
      have hlen : 1 + (nT i).length ≤ sizeLine := Nat.le_of_lt (small1000 (by have := nT_len (i := i) (by omega); omega))
      exact ⟨_, rfl, .inr ⟨_, rfl, big30 (by omega), _, _, rfl, rfl, hlen, q⟩⟩
theorem slA {K : PySem.W.Frag} {H : Hp} {p : Addr} {xs : List V} {lo hi : Option Int} {Q : V → Hp → Prop} (h : SqT K H p xs) (n : ¬ (HT.sIx xs.length 0 lo = 0 ∧ HT.sIx xs.length xs.length hi = xs.length)) (q : ∀ t, H t = none → Q (.ref t) (upd H t (.tup (cutV xs lo hi)))) : rSlA K (.ref p) lo hi H Q := ⟨p, xs, rfl, h, fun e => absurd e n, fun _ => q⟩
theorem paired_app3 {α β : Type} {F : α → β → Prop} {xs us : List α} {ys ws : List β} (h : Paired F xs ys) (g : Paired F us ws) : Paired F (xs ++ us) (ys ++ ws) := paired_app h g
theorem wv_wd {s : Str} (h : Wd s) : WV (.str s) s := ⟨.inl rfl, Nat.le_trans h.2.1 (by decide)⟩
theorem wv_sg {s : Str} (h : SgOk s) : WV (.str s) s := ⟨.inl rfl, Nat.le_trans h.1 (by decide)⟩
theorem wvs_sg : ∀ {ws : List Str}, (∀ s ∈ ws, SgOk s) → Paired WV (ws.map V.str) ws
  | [], _ => .nil
  | s :: ws, h => .cons (wv_sg (h s (by simp))) (wvs_sg fun x hx => h x (by simp [hx]))
def spSW : Sp := fun vs H Q _ => ∃ (p : Addr) (st : StD), vs = [.ref p] ∧ StAt H p st ∧ StW st ∧ ∀ r xs H', H' r = some (.lst xs) → Paired WV xs st.words → Same H H' → Q (.ref r) H'
theorem ok_sw (T : Txt K mg a d) : FnOk P w K mg base CX0 2 (a 63) (d 63) ["step"] spSW := by
  have G62 : FnOk P w K mg base CX0 1 (a 62) (d 62) ["item"] spIW := ok_iw T
  refine T.F63.ok sc__step_words (fun vs H Q E h => ?_) (fun cdv A outer s H vs Q E hr h => ?_)
  · obtain ⟨p, st, rfl, _⟩ := h
    rfl
  · obtain ⟨p, st, rfl, hp, hw, q⟩ := h
    have hu := hu_of hr
    refine ⟨_, (pss_cons (ps_if (pt_cmpR op_eq (pe_ix ix_tup (pv 0) pe_int (fun _ _ => rfl)) pe_str (nomark _))
    (pss_one (ps_ret (pe_lst (StX.pa_star (pe_slice sl_tupA (pv 0) po_none (po_some pe_int)) (pa_cons (pe_call G62 (hr.mono (by decide)) (by rfl) T.g62 T.F62.kp T.b62 .nil pass0 (pa_cons (pe_ix ix_tup (pv 0) pe_int (fun _ _ => rfl)) pa_nil)) pa_nil)))))
    pss_nil)
  (pss_cons (ps_if (pt_cmpR op_in_seq (pe_ix ix_tup (pv 0) pe_int (fun _ _ => rfl)) (pe_tup (pa_cons pe_str (pa_cons pe_str pa_nil))) (by rfl))
    (pss_one (ps_ret (pe_lst (StX.pa_star (pe_slice sl_tupA (pv 0) po_none (po_some (pe_un un_neg pe_int))) (StX.pa_star (pe_lc (own := [("item", 1)]) rfl sc__step_words.nd (pi_tup (pe_ix ix_tup (pv 0) (pe_un un_neg pe_int) (fun _ _ => rfl))) (blkOk_by (N := ["step", "item"]) (sc := defScope s__step_words) (by decide +kernel)) (fun _ _ _ _ _ => pg_name (i := 1) sc__step_words.nd rfl (.inl rfl)) (fun _ _ _ _ _ => pts_nil) (fun _ _ _ _ _ => (pe_call G62 (hr.mono (by decide)) (by rfl) T.g62 T.F62.kp T.b62 .nil pass0 (pa_cons (pv 1) pa_nil)))) pa_nil)))))
    pss_nil)
  (pss_one (ps_ret (pe_callTy (T := "list")  call_list_of (by rfl) T.z_list (by decide +kernel) (pa_cons (pv 0) pa_nil)))))), ?_⟩
    have wsg := words_sg hw
    have lit : ∀ (s t : Str), s ≠ t → ¬ (V.str s = V.str t) := fun s t h e => h (V.str.inj e)
    cases st with
    | whr n o i it =>
      obtain ⟨v, h1, h2⟩ := hp
      have hi : 0 ≤ i ∧ i < 10 ^ 30 := hw.its (.idx i) (by simp [StD.items])
      have hit : ItW it := hw.its it (by simp [StD.items])
      refine ⟨_, rfl, _, _, _, _, rfl, rfl, .of h1, atI_nat (j := 0) rfl, rfl, _, rfl, ite_d (fun _ => ?_) (fun e => absurd rfl e)⟩
      refine ⟨_, rfl, _, rfl, slA (K := K) (.of h1) (by show ¬ (HT.sIx 5 0 none = 0 ∧ HT.sIx 5 5 (some 4) = 5); decide) fun t ht => ⟨t, _, rfl, .inl (.of upd_same), ?_⟩⟩
      have zt := same_upd (o := .tup (cutV [.str "where", .str n, .str o, .int i, v] none (some 4))) ht
      refine ⟨_, rfl, _, _, _, _, rfl, rfl, .of (zt _ _ h1), atI_nat (j := 4) rfl, v, it, rfl, h2.keeps fun _ _ e => zt _ _ e, hit, ?_⟩
      refine ⟨by show 5 ≤ sizeLine; decide, fun r hr' => ?_⟩
      have zr := same_upd (o := .lst (cutV [.str "where", .str n, .str o, .int i, v] none (some 4) ++ [.str (itemW it)])) hr'
      refine q r _ _ upd_same ?_ (zt.trans zr)
      have hn := hw.ok.ns
      exact .cons (wv_sg (lit_sgP _ (by simp))) (.cons (wv_wd (hn n (by simp [StD.ns]))) (.cons (wv_wd (hn o (by simp [StD.ns]))) (.cons ⟨.inr ⟨i, rfl, rfl, big30 (by omega)⟩, by have := nT_len (i := i) (by omega); omega⟩ (.cons (wv_sg (itemW_sg hit)) .nil))))
    | start n =>
      have hp : H p = some (.tup [.str "start", .str n]) := hp
      refine ⟨_, rfl, _, _, _, _, rfl, rfl, .of hp, atI_nat (j := 0) rfl, rfl, _, rfl, ite_d (fun e => absurd e (lit _ _ (by decide +kernel))) (fun _ => ?_)⟩
      refine ⟨_, rfl, _, _, _, _, rfl, rfl, .of hp, atI_nat (j := 0) rfl, by show 2 ≤ sizeLine; decide, fun t ht => ⟨t, _, rfl, .inr (.of upd_same), rfl, rfl, _, rfl, ?_⟩⟩
      have zt := same_upd (o := .tup [.str "call", .str "take"]) ht
      rw [show inV (V.str (Str.ofString "start")) [V.str (Str.ofString "call"), V.str (Str.ofString "take")] = false from by decide +kernel]
      refine ifF ⟨_, rfl, p, _, rfl, .inr (.of (zt _ _ hp)), fun r hr' => ?_⟩
      exact q r _ _ upd_same (wvs_sg (ws := (StD.words (.start n))) wsg) (zt.trans (same_upd hr'))
    | join b n x y =>
      have hp : H p = some (.tup [.str (if b then "both" else "pair"), .str n, .str x, .str y]) := hp
      refine ⟨_, rfl, _, _, _, _, rfl, rfl, .of hp, atI_nat (j := 0) rfl, rfl, _, rfl, ite_d (fun e => absurd e (lit _ _ (by cases b <;> decide +kernel))) (fun _ => ?_)⟩
      refine ⟨_, rfl, _, _, _, _, rfl, rfl, .of hp, atI_nat (j := 0) rfl, by show 2 ≤ sizeLine; decide, fun t ht => ⟨t, _, rfl, .inr (.of upd_same), rfl, rfl, _, rfl, ?_⟩⟩
      have zt := same_upd (o := .tup [.str "call", .str "take"]) ht
      rw [show inV (V.str (if b then "both" else "pair")) [V.str (Str.ofString "call"), V.str (Str.ofString "take")] = false from by cases b <;> decide +kernel]
      refine ifF ⟨_, rfl, p, _, rfl, .inr (.of (zt _ _ hp)), fun r hr' => ?_⟩
      exact q r _ _ upd_same (wvs_sg (ws := (StD.words (.join b n x y))) wsg) (zt.trans (same_upd hr'))
    | call n o sv its =>
      obtain ⟨g, vs, h1, h2, h3⟩ := hp
      have hits : ∀ it ∈ its, ItW it := hw.its
      have hln : its.length ≤ 10 := hw.len
      have lvs := Paired.length h3
      refine ⟨_, rfl, _, _, _, _, rfl, rfl, .of h1, atI_nat (j := 0) rfl, rfl, _, rfl, ite_d (fun e => absurd e (lit _ _ (by decide +kernel))) (fun _ => ?_)⟩
      refine ⟨_, rfl, _, _, _, _, rfl, rfl, .of h1, atI_nat (j := 0) rfl, by show 2 ≤ sizeLine; decide, fun t ht => ⟨t, _, rfl, .inr (.of upd_same), rfl, rfl, _, rfl, ?_⟩⟩
      have zt := same_upd (o := .tup [.str "call", .str "take"]) ht
      rw [show inV (V.str (Str.ofString "call")) [V.str (Str.ofString "call"), V.str (Str.ofString "take")] = true from by decide +kernel]
      have g1 := zt _ _ h1
      have g2 := zt _ _ h2
      have g3 := ItsAt.keeps h3 fun _ _ e => zt _ _ e
      generalize upd H t (.tup [.str "call", .str "take"]) = H1 at zt g1 g2 g3 ⊢
      refine ifT ⟨_, rfl, _, rfl, _, rfl, slA (K := K) (.of g1) (by show ¬ (HT.sIx 5 0 none = 0 ∧ HT.sIx 5 5 (some (-1)) = 5); decide) fun t2 ht2 => ⟨t2, _, rfl, .inl (.of upd_same), ?_⟩⟩
      have z2 := same_upd (o := .tup (cutV [.str "call", .str n, .str o, .str sv, .ref g] none (some (-1)))) ht2
      have e2 : upd H1 t2 (.tup (cutV [.str "call", .str n, .str o, .str sv, .ref g] none (some (-1)))) g = some (.tup vs) := z2 _ _ g2
      have e1 := z2 _ _ g1
      have e3 := ItsAt.keeps g3 fun _ _ e => z2 _ _ e
      have z12 := zt.trans z2
      generalize upd H1 t2 (.tup (cutV [.str "call", .str n, .str o, .str sv, .ref g] none (some (-1)))) = H2 at z12 e1 e2 e3 ⊢
      refine ⟨_, rfl, _, rfl, _, _, _, _, rfl, rfl, .of e1, rfl, g, rfl, ⟨_, .of e2⟩, fun D hD => ?_⟩
      refine lc_tup (K := K) (a := g) (xs := vs) (fun j G => G D = some (.lst (((its.take j).map itemW).map V.str)) ∧ Same H2 G) ⟨upd_same, same_upd hD⟩ (fun j G _ hp5 => .of (hp5.2 _ _ e2)) (fun j x G hx hp5 => ?_) (fun G hp5 => ?_)
      · obtain ⟨e6, he6, hxe⟩ := paired_at e3 hx
        have lj6 : j < vs.length := (List.getElem?_eq_some_iff.mp hx).1
        refine ⟨rfl, _, rfl, x, e6, rfl, hxe.keeps fun _ _ e => hp5.2 _ _ e, hits e6 (List.mem_of_getElem? he6), _, hp5.1, ?_, ?_, fun b5 o6 eb => ?_⟩
        · rw [List.length_map, List.length_map, List.length_take]
          exact small1000 (by omega)
        · rw [map_take he6, List.map_append]
          exact upd_same
        · rw [upd_ne (ne_of_none eb hD)]
          exact hp5.2 b5 o6 eb
      · obtain ⟨g1', sG⟩ := hp5
        rw [lvs, List.take_length] at g1'
        refine ⟨D, _, rfl, .inr (.of g1'), ?_, fun r hr' => ?_⟩
        · refine Nat.le_of_lt (small1000 ?_)
          simp only [List.length_append, List.length_map, List.length_cons, List.length_nil, cutV, List.length_take, List.length_drop]
          omega
        · have hn := hw.ok.ns
          refine q r _ _ upd_same ?_ ((z12.trans sG).trans (same_upd hr'))
          exact .cons (wv_sg (lit_sgP _ (by simp))) (.cons (wv_wd (hn n (by simp [StD.ns]))) (.cons (wv_wd (hn o (by simp [StD.ns]))) (.cons (wv_wd (hn sv (by simp [StD.ns]))) (by rw [List.append_nil]; exact wvs_sg fun x hx => by obtain ⟨it, hi, rfl⟩ := List.mem_map.mp hx; exact itemW_sg (hits it hi)))))
    | take n o its =>
      obtain ⟨g, vs, h1, h2, h3⟩ := hp
      have hits : ∀ it ∈ its, ItW it := hw.its
      have hln : its.length ≤ 10 := hw.len
      have lvs := Paired.length h3
      refine ⟨_, rfl, _, _, _, _, rfl, rfl, .of h1, atI_nat (j := 0) rfl, rfl, _, rfl, ite_d (fun e => absurd e (lit _ _ (by decide +kernel))) (fun _ => ?_)⟩
      refine ⟨_, rfl, _, _, _, _, rfl, rfl, .of h1, atI_nat (j := 0) rfl, by show 2 ≤ sizeLine; decide, fun t ht => ⟨t, _, rfl, .inr (.of upd_same), rfl, rfl, _, rfl, ?_⟩⟩
      have zt := same_upd (o := .tup [.str "call", .str "take"]) ht
      rw [show inV (V.str (Str.ofString "take")) [V.str (Str.ofString "call"), V.str (Str.ofString "take")] = true from by decide +kernel]
      have g1 := zt _ _ h1
      have g2 := zt _ _ h2
      have g3 := ItsAt.keeps h3 fun _ _ e => zt _ _ e
      generalize upd H t (.tup [.str "call", .str "take"]) = H1 at zt g1 g2 g3 ⊢
      refine ifT ⟨_, rfl, _, rfl, _, rfl, slA (K := K) (.of g1) (by show ¬ (HT.sIx 4 0 none = 0 ∧ HT.sIx 4 4 (some (-1)) = 4); decide) fun t2 ht2 => ⟨t2, _, rfl, .inl (.of upd_same), ?_⟩⟩
      have z2 := same_upd (o := .tup (cutV [.str "take", .str n, .str o, .ref g] none (some (-1)))) ht2
      have e2 : upd H1 t2 (.tup (cutV [.str "take", .str n, .str o, .ref g] none (some (-1)))) g = some (.tup vs) := z2 _ _ g2
      have e1 := z2 _ _ g1
      have e3 := ItsAt.keeps g3 fun _ _ e => z2 _ _ e
      have z12 := zt.trans z2
      generalize upd H1 t2 (.tup (cutV [.str "take", .str n, .str o, .ref g] none (some (-1)))) = H2 at z12 e1 e2 e3 ⊢
      refine ⟨_, rfl, _, rfl, _, _, _, _, rfl, rfl, .of e1, rfl, g, rfl, ⟨_, .of e2⟩, fun D hD => ?_⟩
      refine lc_tup (K := K) (a := g) (xs := vs) (fun j G => G D = some (.lst (((its.take j).map itemW).map V.str)) ∧ Same H2 G) ⟨upd_same, same_upd hD⟩ (fun j G _ hp5 => .of (hp5.2 _ _ e2)) (fun j x G hx hp5 => ?_) (fun G hp5 => ?_)
      · obtain ⟨e6, he6, hxe⟩ := paired_at e3 hx
        have lj6 : j < vs.length := (List.getElem?_eq_some_iff.mp hx).1
        refine ⟨rfl, _, rfl, x, e6, rfl, hxe.keeps fun _ _ e => hp5.2 _ _ e, hits e6 (List.mem_of_getElem? he6), _, hp5.1, ?_, ?_, fun b5 o6 eb => ?_⟩
        · rw [List.length_map, List.length_map, List.length_take]
          exact small1000 (by omega)
        · rw [map_take he6, List.map_append]
          exact upd_same
        · rw [upd_ne (ne_of_none eb hD)]
          exact hp5.2 b5 o6 eb
      · obtain ⟨g1', sG⟩ := hp5
        rw [lvs, List.take_length] at g1'
        refine ⟨D, _, rfl, .inr (.of g1'), ?_, fun r hr' => ?_⟩
        · refine Nat.le_of_lt (small1000 ?_)
          simp only [List.length_append, List.length_map, List.length_cons, List.length_nil, cutV, List.length_take, List.length_drop]
          omega
        · have hn := hw.ok.ns
          refine q r _ _ upd_same ?_ ((z12.trans sG).trans (same_upd hr'))
          exact .cons (wv_sg (lit_sgP _ (by simp))) (.cons (wv_wd (hn n (by simp [StD.ns]))) (.cons (wv_wd (hn o (by simp [StD.ns]))) (by rw [List.append_nil]; exact wvs_sg fun x hx => by obtain ⟨it, hi, rfl⟩ := List.mem_map.mp hx; exact itemW_sg (hits it hi))))
end
section
variable {P : Program} {w : World} {K : PySem.W.Frag} {mg : Str → Option Value} {base : Heap} {a : Nat → Addr} {d : Nat → FuncData}
def spPLines (CS CP : Addr) : Sp := fun vs H Q _ => ∃ (p dx sp l : Addr) (ts : List (Str × Int)) (ks : List KeyE) (ss : List SvE) (m n : Nat) (xs : List StE) (t : SzD), vs = [.ref p] ∧ PrO CS CP p dx sp l H ts ks ss m n xs t ∧ (∀ b ∈ xs, StW b.2) ∧ ∀ r H', H' r = some (.lst ((xs.map fun b => lineS b.2).map V.str)) → Same H H' → Q (.ref r) H'
theorem ok_plines (T : Txt K mg a d) : FnOk P w K mg base CX0 4 (a 64) (d 64) ["program"] (spPLines (a 48) (a 31)) := by
  have G63 : FnOk P w K mg base CX0 2 (a 63) (d 63) ["step"] spSW := ok_sw T
  have G61 : FnOk P w K mg base CX0 1 (a 61) (d 61) ["words"] (spLine K) := ok_line T
  have G4102 : FnOk P w K mg base CX0 1 (a 4102) (d 4102) ["self"] (spStL (a 48) (a 31)) := ok_stl T
  refine T.F64.ok sc_program_lines (fun vs H Q E h => ?_) (fun cdv A outer s H vs Q E hr h => ?_)
  · obtain ⟨p, dx, sp, l, ts, ks, ss, m, n, xs, t, rfl, _⟩ := h
    rfl
  · obtain ⟨p, dx, sp, l, ts, ks, ss, m, n, xs, t, rfl, hP, hw, q⟩ := h
    refine ⟨_, (pss_one (ps_ret (pe_lc (own := [("step", 1)]) rfl sc_program_lines.nd (pi_list (pe_meth0 (pv 0) T.cl_31 T.m_4102 G4102 (hr.mono (by decide)) T.b4102 .nil pass0)) (blkOk_by (N := ["program", "step"]) (sc := defScope s_program_lines) (by decide +kernel)) (fun _ _ _ _ _ => pg_name (i := 1) sc_program_lines.nd rfl (.inl rfl)) (fun _ _ _ _ _ => pts_nil) (fun _ _ _ _ _ => (pe_call G61 (hr.mono (by decide)) (by rfl) T.g61 T.F61.kp T.b61 .nil pass0 (pa_cons (pe_call G63 (hr.mono (by decide)) (by rfl) T.g63 T.F63.kp T.b63 .nil pass0 (pa_cons (pv 1) pa_nil)) pa_nil)))))), ?_⟩
    refine ⟨_, rfl, p, dx, _, rfl, hP.ob, rfl, p, dx, sp, l, ts, ks, ss, m, n, xs, t, rfl, hP, fun r hr1 => ?_⟩
    have s1 := same_upd (o := .lst (refsOf xs)) hr1
    have e1 : upd H r (.lst (refsOf xs)) r = some (.lst (refsOf xs)) := upd_same
    have hst := (hP.same s1).st
    have l12 := hP.l12
    generalize upd H r (.lst (refsOf xs)) = H1 at s1 e1 hst ⊢
    refine ⟨r, rfl, ⟨_, .of e1⟩, fun D hD => ?_⟩
    refine lc_list (K := K) (a := r) (xs := refsOf xs) (fun i H' => H' D = some (.lst (((xs.take i).map fun b => lineS b.2).map V.str)) ∧ Same H1 H') ⟨upd_same, same_upd hD⟩ (fun i H' _ hp => .of (hp.2 _ _ e1)) (fun i x H' hx hp => ?_) (fun H' hp => ?_)
    · obtain ⟨b, hb, rfl⟩ := map_at hx
      have hbm := List.mem_of_getElem? hb
      have li : i < xs.length := (List.getElem?_eq_some_iff.mp hb).1
      refine ⟨rfl, _, rfl, b.1, b.2, rfl, (hst b hbm).1.keeps fun _ _ e => hp.2 _ _ e, hw b hbm, fun r2 ys H2 e2 pw s2 => ?_⟩
      refine ⟨r2, ys, _, rfl, .of e2, pw, ?_, fun H3 s3 => ?_⟩
      · have := (words_len (hw b hbm)).1
        have := Paired.length pw
        omega
      · have s23 := (hp.2.trans s2).trans s3
        refine ⟨_, s3 _ _ (s2 _ _ hp.1), ?_, ?_, fun b5 o6 eb => ?_⟩
        · rw [List.length_map, List.length_map, List.length_take]
          exact small1000 (by omega)
        · rw [map_take hb, List.map_append]
          exact upd_same
        · rw [upd_ne (ne_of_none eb hD)]
          exact s23 b5 o6 eb
    · obtain ⟨h1, h2⟩ := hp
      rw [show (refsOf xs).length = xs.length by unfold refsOf; rw [List.length_map], List.take_length] at h1
      exact q D H' h1 (s1.trans h2)
/-! ### a step from its things -/
theorem da_key {C : Addr → Prop} {H : Hp} {n : Nat} {v : V} {k : Key} (h : DA C H n v (keyD k)) : v = kV k := by
  cases k with
  | inl i => exact h.asInt
  | inr s => exact h.asStr.1
theorem da_item {C : Addr → Prop} {H : Hp} {n : Nat} {v : V} {it : ItD} (h : DA C H n v (itD it)) : ItAt H v it := by
  cases it with
  | val k =>
    obtain ⟨p, xs, j, rfl, rfl, _, hp, _, pr⟩ := h.asTup
    match xs, pr with
    | [x], .cons hx .nil =>
      have := da_key hx
      subst this
      exact ⟨p, rfl, hp⟩
  | idx i => exact h.asInt
theorem da_items {C : Addr → Prop} {H : Hp} {n : Nat} : ∀ {vs : List V} {its : List ItD}, Paired (DA C H n) vs (its.map itD) → ItsAt H vs its
  | _, [], .nil => .nil
  | _, _ :: _, .cons h t => .cons (da_item h) (da_items t)
theorem cut3 {a b c : V} {vs : List V} : cutV (a :: b :: c :: vs) none (some 3) = [a, b, c] ∧ cutV (a :: b :: c :: vs) (some 3) none = vs := by
  unfold cutV
  rw [HT.sIx_none, HT.sIx_none, show (some (3 : Int)) = some ((3 : Nat) : Int) from rfl, HT.sIx_nat, HT.sIx_nat]
  have h : min 3 (a :: b :: c :: vs).length = 3 := by simp only [List.length_cons]; omega
  rw [h]
  exact ⟨rfl, by simp⟩
theorem cut2 {a b : V} {vs : List V} : cutV (a :: b :: vs) none (some 2) = [a, b] ∧ cutV (a :: b :: vs) (some 2) none = vs := by
  unfold cutV
  rw [HT.sIx_none, HT.sIx_none, show (some (2 : Int)) = some ((2 : Nat) : Int) from rfl, HT.sIx_nat, HT.sIx_nat]
  have h : min 2 (a :: b :: vs).length = 2 := by simp only [List.length_cons]; omega
  rw [h]
  exact ⟨rfl, by simp⟩
def spStp : Sp := fun vs H Q _ => ∃ (C : Addr → Prop) (n : Nat) (L : Addr) (xs : List V) (st : StD), vs = [.str st.kind, .ref L] ∧ H L = some (.lst xs) ∧ Paired (DA C H n) xs st.things ∧ st.items.length ≤ 10 ∧ ∀ p H', H' p ≠ none → H p = none → StAt H' p st → Same H H' → Q (.ref p) H'
theorem ok_stp (T : Txt K mg a d) : FnOk P w K mg base CX0 1 (a 58) (d 58) ["kind", "things"] spStp := by
  refine T.F58.ok sc__step (fun vs H Q E h => ?_) (fun cdv A outer s H vs Q E hr h => ?_)
  · obtain ⟨C, n, L, xs, st, rfl, _⟩ := h
    rfl
  · obtain ⟨C, n, L, xs, st, rfl, hL, pr, l10, q⟩ := h
    refine ⟨_, (pss_cons (ps_set (i := 2) sc__step.nd rfl (.inl rfl) (pe_dget1 (hu_of hr) (pe_disp (pps_cons pe_str pe_int (pps_cons pe_str pe_int pps_nil)) (by rfl) (by rfl) (fun z => by cases z) (by decide)) (pv 0) ⟨rfl, rfl, rfl, rfl⟩))
  (pss_one (ps_ret (pe_ifExp (pt_cmpR op_isN (pv 2) pe_non (nomark _)) (pe_tup (pa_cons (pv 0) (StX.pa_star (pv 1) pa_nil))) (pe_tup (pa_cons (pv 0) (StX.pa_star (pe_slice sl_list (pv 1) po_none (po_some (pv 2))) (pa_cons (pe_callTy (T := "tuple")  call_tuple_of (by rfl) T.z_tuple (by decide +kernel) (pa_cons (pe_slice sl_list (pv 1) (po_some (pv 2)) po_none) pa_nil)) pa_nil)))))))), ?_⟩
    refine fun z hz => ⟨upd_same, [(Sum.inr "call", .int 3), (Sum.inr "take", .int 2)], rfl, by show 2 ≤ 15; decide, ?_⟩
    have ez : upd (upd H z (.dK [])) z (.dK (mergeK [] [(Sum.inr "call", .int 3), (Sum.inr "take", .int 2)])) z = some (.dK [(Sum.inr "call", .int 3), (Sum.inr "take", .int 2)]) := upd_same
    have sz : Same H (upd (upd H z (.dK [])) z (.dK (mergeK [] [(Sum.inr "call", .int 3), (Sum.inr "take", .int 2)]))) := fun b o e => by
      rw [upd_ne (ne_of_none e hz), upd_ne (ne_of_none e hz)]
      exact e
    generalize upd (upd H z (.dK [])) z (.dK (mergeK [] [(Sum.inr "call", .int 3), (Sum.inr "take", .int 2)])) = H1 at ez sz ⊢
    have hL1 := sz _ _ hL
    have pr1 := paired_imp (fun _ _ h => DA.same h sz) pr
    have bk : ∀ {p : Addr} {o : HO} {H2 : Hp}, Same H H2 → H2 p = none → H p = none := fun {p o H2} s e => same_none s e
    cases st with
    | start n =>
      match xs, pr1 with
      | [x1], .cons h1 .nil =>
      obtain ⟨rfl, _⟩ := h1.asStr
      refine ⟨z, rfl, .inl ⟨_, .of ez⟩, _, rfl, _, DGet.k (k := Sum.inr "start") ez, ?_⟩
      refine ⟨_, rfl, rfl, _, rfl, ite_d (fun _ => ?_) (fun e => absurd rfl e)⟩
      refine ⟨_, rfl, _, rfl, L, _, rfl, .inr (.of hL1), by show 2 ≤ sizeLine; decide, fun p hp => ?_⟩
      exact q p _ (by rw [upd_same]; exact fun e => nomatch e) (same_none sz hp) upd_same (sz.trans (same_upd hp))
    | join b n x y =>
      match xs, pr1 with
      | [x1, x2, x3], .cons h1 (.cons h2 (.cons h3 .nil)) =>
      obtain ⟨rfl, _⟩ := h1.asStr
      obtain ⟨rfl, _⟩ := h2.asStr
      obtain ⟨rfl, _⟩ := h3.asStr
      refine ⟨z, rfl, .inl ⟨_, .of ez⟩, _, rfl, _, DGet.k (k := Sum.inr (if b then "both" else "pair")) ez, ?_⟩
      have en : (valV [((Sum.inr "call" : Key), V.int 3), (Sum.inr "take", .int 2)] (Sum.inr (if b then "both" else "pair"))) = none := by cases b <;> rfl
      rw [en]
      refine ⟨_, rfl, rfl, _, rfl, ite_d (fun _ => ?_) (fun e => absurd rfl e)⟩
      refine ⟨_, rfl, _, rfl, L, _, rfl, .inr (.of hL1), by show 4 ≤ sizeLine; decide, fun p hp => ?_⟩
      exact q p _ (by rw [upd_same]; exact fun e => nomatch e) (same_none sz hp) upd_same (sz.trans (same_upd hp))
    | whr n o i it =>
      match xs, pr1 with
      | [x1, x2, x3, x4], .cons h1 (.cons h2 (.cons h3 (.cons h4 .nil))) =>
      obtain ⟨rfl, _⟩ := h1.asStr
      obtain ⟨rfl, _⟩ := h2.asStr
      have := h3.asInt
      subst this
      refine ⟨z, rfl, .inl ⟨_, .of ez⟩, _, rfl, _, DGet.k (k := Sum.inr "where") ez, ?_⟩
      refine ⟨_, rfl, rfl, _, rfl, ite_d (fun _ => ?_) (fun e => absurd rfl e)⟩
      refine ⟨_, rfl, _, rfl, L, _, rfl, .inr (.of hL1), by show 5 ≤ sizeLine; decide, fun p hp => ?_⟩
      exact q p _ (by rw [upd_same]; exact fun e => nomatch e) (same_none sz hp) ⟨x4, upd_same, (da_item h4).keeps fun _ _ e => same_upd hp _ _ e⟩ (sz.trans (same_upd hp))
    | call n o s its =>
      match xs, pr1 with
      | x1 :: x2 :: x3 :: vs, .cons h1 (.cons h2 (.cons h3 h4)) =>
      obtain ⟨rfl, _⟩ := h1.asStr
      obtain ⟨rfl, _⟩ := h2.asStr
      obtain ⟨rfl, _⟩ := h3.asStr
      have hits := da_items h4
      have lv := Paired.length hits
      have l10 : its.length ≤ 10 := l10
      refine ⟨z, rfl, .inl ⟨_, .of ez⟩, _, rfl, _, DGet.k (k := Sum.inr "call") ez, ?_⟩
      refine ⟨_, rfl, rfl, _, rfl, ite_d (fun e => nomatch e) (fun _ => ?_)⟩
      refine ⟨_, rfl, _, rfl, _, rfl, _, rfl, L, _, rfl, .of hL1, fun p1 f1 => ?_⟩
      rw [cut3.1]
      have z1 := same_upd (o := .lst [.str n, .str o, .str s]) f1
      refine ⟨p1, _, rfl, .inr (.of upd_same), _, rfl, _, rfl, _, rfl, L, _, rfl, .of (z1 _ _ hL1), fun p2 f2 => ?_⟩
      rw [cut3.2]
      have z2 := same_upd (o := .lst vs) f2
      refine ⟨p2, _, rfl, .inl ⟨.of upd_same, fun p3 f3 => ⟨by show 5 ≤ sizeLine; decide, fun p hp => ?_⟩⟩⟩
      have z3 := same_upd (o := .tup vs) f3
      have z4 := same_upd (o := .tup [.str "call", .str n, .str o, .str s, .ref p3]) hp
      have s4 := ((sz.trans z1).trans z2).trans z3
      exact q p _ (by rw [upd_same]; exact fun e => nomatch e) (same_none s4 hp) ⟨p3, vs, upd_same, z4 _ _ upd_same, hits.keeps fun _ _ e => z4 _ _ (z3 _ _ (z2 _ _ (z1 _ _ e)))⟩ (s4.trans z4)
    | take n o its =>
      match xs, pr1 with
      | x1 :: x2 :: vs, .cons h1 (.cons h2 h4) =>
      obtain ⟨rfl, _⟩ := h1.asStr
      obtain ⟨rfl, _⟩ := h2.asStr
      have hits := da_items h4
      have lv := Paired.length hits
      have l10 : its.length ≤ 10 := l10
      refine ⟨z, rfl, .inl ⟨_, .of ez⟩, _, rfl, _, DGet.k (k := Sum.inr "take") ez, ?_⟩
      refine ⟨_, rfl, rfl, _, rfl, ite_d (fun e => nomatch e) (fun _ => ?_)⟩
      refine ⟨_, rfl, _, rfl, _, rfl, _, rfl, L, _, rfl, .of hL1, fun p1 f1 => ?_⟩
      rw [cut2.1]
      have z1 := same_upd (o := .lst [.str n, .str o]) f1
      refine ⟨p1, _, rfl, .inr (.of upd_same), _, rfl, _, rfl, _, rfl, L, _, rfl, .of (z1 _ _ hL1), fun p2 f2 => ?_⟩
      rw [cut2.2]
      have z2 := same_upd (o := .lst vs) f2
      refine ⟨p2, _, rfl, .inl ⟨.of upd_same, fun p3 f3 => ⟨by show 4 ≤ sizeLine; decide, fun p hp => ?_⟩⟩⟩
      have z3 := same_upd (o := .tup vs) f3
      have z4 := same_upd (o := .tup [.str "take", .str n, .str o, .ref p3]) hp
      have s4 := ((sz.trans z1).trans z2).trans z3
      exact q p _ (by rw [upd_same]; exact fun e => nomatch e) (same_none s4 hp) ⟨p3, vs, upd_same, z4 _ _ upd_same, hits.keeps fun _ _ e => z4 _ _ (z3 _ _ (z2 _ _ (z1 _ _ e)))⟩ (s4.trans z4)
end
/-! ### Program(schema, steps), for any number of steps -/
theorem FnOk_or {P : Program} {w : World} {K : PySem.W.Frag} {mg : Str → Option Value} {base : Heap} {CX : CXT} {k : Nat} {f : Addr} {fd : FuncData} {ps : List Str} {s1 s2 : Sp} (F : FnOk P w K mg base CX k f fd ps s1) (G : FnOk P w K mg base CX k f fd ps s2) : FnOk P w K mg base CX k f fd ps (fun vs H Q E => s1 vs H Q E ∨ s2 vs H Q E) :=
  ⟨fun vs H Q E q => q.elim (F.len vs H Q E) (G.len vs H Q E), fun A outer s H args us vs Q E hr he hb hv hs => hs.elim (F.run A outer s H args us vs Q E hr he hb hv) (G.run A outer s H args us vs Q E hr he hb hv)⟩
def dueP (ts : List (Str × Int)) (ss : List SvE) (sts : List StD) : Option (Str × V) := if 1 ≤ sts.length ∧ sts.length ≤ 12 then (match runG ts ss sts sz0 0 with
    | .inl z => some (z.1, .int (z.2 : Nat))
    | .inr _ => none) else some ("steps", .non)
section
variable {P : Program} {w : World} {K : PySem.W.Frag} {mg : Str → Option Value} {base : Heap} {a : Nat → Addr} {d : Nat → FuncData}
def spPInitL (CP CE : Addr) : Sp := fun vs H Q E => ∃ (p dx sp l : Addr) (xs : List StE), vs = [.ref p, .ref sp, .ref l] ∧ H p = some (.ins CP dx []) ∧ H l = some (.lst (refsOf xs)) ∧ ¬ (1 ≤ xs.length ∧ xs.length ≤ 12) ∧ (∀ H', Same H H' → Er2 CE "part" "at" (.str "steps") .non H' E)
theorem ok_pinitL (T : Txt K mg a d) (W : TxtW K w a) : FnOk P w K mg base (L2.CX P w) 7 (a 4100) (d 4100) ["self", "schema", "steps"] (spPInitL (a 31) (a 5)) := by
  have G30 : FnOk P w K mg base CX0 6 (a 30) (d 30) ["schema", "step", "sizes"] (spWrong (a 48)) := ok_wrong T W
  have G28 : FnOk P w K mg base CX0 5 (a 28) (d 28) ["schema", "step", "sizes"] (spSize (a 48)) := ok_size T
  have G1500 : FnOk P w K mg base CX0 1 (a 1500) (d 1500) ["self", "part", "at"] (spI2 (a 5) "part" "at") := ok_ipinit T
  refine T.F4100.okX sc_Program___init__ (fun vs H Q E h => ?_) (fun cdv A outer s H vs Q E hr h => ?_)
  · obtain ⟨p, dx, sp, l, xs, rfl, _⟩ := h
    rfl
  · obtain ⟨p, dx, sp, l, xs, rfl, hp, hl, nl, q1⟩ := h
    obtain ⟨t1, h_MOST_STEPS⟩ := T.c_MOST_STEPS
    refine ⟨_, (pss_cons (ps_if (pt_not (pt_chain op_le op_le pe_int (pe_callB (id := "len")  call_len_seq (by rfl) T.z_len (by decide +kernel) (pa_cons (pv 2) pa_nil)) (pe_glob (v := .int (12)) rfl h_MOST_STEPS ⟨_, rfl⟩)))
    (pss_one (ps_raise rfl (takes_of rfl rfl rfl rfl) (pmk_oex T.x_5 T.in_5 T.ti_5 G1500 (hr.mono (by decide)) T.b1500 .nil pass0 (by rfl) T.cg_5 (pa_cons pe_str (pa_cons pe_non pa_nil)))))
    pss_nil)
  (pss_cons (ps_set (i := 3) sc_Program___init__.nd rfl (.inl rfl) pe_dnewK)
  (pss_cons (ps_for (passes_of rfl) rfl (pi_enum (by rfl) T.z_enumerate (pa_cons (pv 2) pa_nil)) (pg_tup rfl (pgs_cons (pg_name (i := 4) sc_Program___init__.nd rfl (.inl rfl)) (pgs_cons (pg_name (i := 5) sc_Program___init__.nd rfl (.inl rfl)) pgs_nil)))
    (pss_cons (ps_set (i := 6) sc_Program___init__.nd rfl (.inl rfl) (pe_call G30 (hr.mono (by decide)) (by rfl) T.g30 T.F30.kp T.b30 .nil pass0 (pa_cons (pv 1) (pa_cons (pv 5) (pa_cons (pv 3) pa_nil)))))
      (pss_cons (ps_if (pt_cmpR op_notN (pv 6) pe_non (nomark _))
        (pss_one (ps_raise rfl (takes_of rfl rfl rfl rfl) (pmk_oex T.x_5 T.in_5 T.ti_5 G1500 (hr.mono (by decide)) T.b1500 .nil pass0 (by rfl) T.cg_5 (pa_cons (pv 6) (pa_cons (pv 4) pa_nil)))))
        pss_nil)
      (pss_one (ps_dput (hu_of hr) (pv 3) (pe_ix ix_tup (pv 5) pe_int (fun _ _ => rfl)) (pe_call G28 (hr.mono (by decide)) (by rfl) T.g28 T.F28.kp T.b28 .nil pass0 (pa_cons (pv 1) (pa_cons (pv 5) (pa_cons (pv 3) pa_nil)))) rfl)))))
  (pss_cons (ps_fld (pv 0) (pv 1) rfl)
  (pss_cons (ps_asg (pe_dget (hu_of hr) (pv 3) (pe_ix ix_tup (pe_ix ix_list (pv 2) (pe_un un_neg pe_int) (fun _ _ => rfl)) pe_int (fun _ _ => rfl)) (fun _ _ => rfl)) (pg_tup rfl (pgs_cons (pg_fld (pv 0)) (pgs_cons (pg_fld (pv 0)) (pgs_cons (pg_fld (pv 0)) pgs_nil)))))
  (pss_one (ps_fld (pv 0) (pe_callTy (T := "list")  call_list_of (by rfl) T.z_list (by decide +kernel) (pa_cons (pv 2) pa_nil)) rfl))))))), ?_⟩
    have ll : (refsOf xs).length = xs.length := List.length_map ..
    refine ⟨_, rfl, _, _, rfl, .inl (.of hl), _, _, rfl, rfl, _, rfl, ite_d (fun h1 => ?_) (fun h1 => ?_)⟩
    · refine ⟨_, _, rfl, rfl, _, rfl, ?_⟩
      show if (!decide (((refsOf xs).length : Int) ≤ 12)) = true then _ else _
      rw [decide_eq_false (show ¬ ((refsOf xs).length : Int) ≤ 12 by omega)]
      exact ifT (er2_raise (q1 H (Same.refl H)))
    · exact ⟨_, rfl, ifT (er2_raise (q1 H (Same.refl H)))⟩
def spPInit3 (CS CP CE : Addr) : Sp := fun vs H Q E => ∃ (p dx sp l : Addr) (xs : List StE) (ts : List (Str × Int)) (ks : List KeyE) (ss : List SvE) (m n : Nat), vs = [.ref p, .ref sp, .ref l] ∧ H p = some (.ins CP dx []) ∧ SchAt CS sp H ts ks ss m n ∧ H l = some (.lst (refsOf xs)) ∧ (∀ b ∈ xs, StAt H b.1 b.2 ∧ StOk b.2) ∧
  (∀ u v, dueP ts ss (xs.map (·.2)) = some (u, v) → ∀ H', Same H H' → Er2 CE "part" "at" (.str u) v H' E) ∧
  (dueP ts ss (xs.map (·.2)) = none → ∀ t H' l', H' p = some (.ins CP dx (fldsP sp l' t)) → H' l' = some (.lst (refsOf xs)) → H l' = none → l' ≠ p → 1 ≤ xs.length → xs.length ≤ 12 → (∀ b o, b ≠ p → H b = some o → H' b = some o) → Q .non H')
theorem ok_pinit3 (T : Txt K mg a d) (W : TxtW K w a) : FnOk P w K mg base (L2.CX P w) 7 (a 4100) (d 4100) ["self", "schema", "steps"] (spPInit3 (a 48) (a 31) (a 5)) := by
  refine (FnOk_or (ok_pinit T W) (ok_pinitL T W)).imp fun vs H Q E h => ?_
  obtain ⟨p, dx, sp, l, xs, ts, ks, ss, m, n, rfl, hp, hS, hl, hx, q1, q2⟩ := h
  have lx : (xs.map (·.2)).length = xs.length := List.length_map ..
  by_cases hl12 : 1 ≤ xs.length ∧ xs.length ≤ 12
  · refine .inl ⟨p, dx, sp, l, xs, ts, ks, ss, m, n, rfl, hp, hS, hl, hx, hl12.1, hl12.2, fun u i e => ?_, fun sz st e _ H' l' h1 h2 h3 h4 h5 => ?_⟩
    · refine q1 u _ ?_
      unfold dueP
      rw [lx, if_pos hl12, e]
    · refine q2 ?_ _ H' l' h1 h2 h3 h4 hl12.1 hl12.2 h5
      unfold dueP
      rw [lx, if_pos hl12, e]
  · refine .inr ⟨p, dx, sp, l, xs, rfl, hp, hl, hl12, q1 _ _ ?_⟩
    unfold dueP
    rw [lx, if_neg hl12]
/-- Program(schema, steps), made -/
theorem mk_prog3 {CS CP CE sp l : Addr} {H : Hp} {ts : List (Str × Int)} {ks : List KeyE} {ss : List SvE} {m n : Nat} {xs : List StE} {Q' : Hp → Prop} {E : XK} {x dx : Addr} (hS : SchAt CS sp H ts ks ss m n) (hl : H l = some (.lst (refsOf xs))) (hx : ∀ b ∈ xs, StAt H b.1 b.2 ∧ StOk b.2)
    (fx : H x = none) (fdx : H dx = none) (ndx : dx ≠ x)
    (q1 : ∀ u v, dueP ts ss (xs.map (·.2)) = some (u, v) → ∀ H', Same H H' → Er2 CE "part" "at" (.str u) v H' E)
    (q2 : dueP ts ss (xs.map (·.2)) = none → ∀ t H' l', PrO CS CP x dx sp l' H' ts ks ss m n xs t → Same H H' → Q' H') :
    spPInit3 CS CP CE (.ref x :: ([.ref sp, .ref l] ++ [])) (upd (upd H dx (.own x)) x (.ins CP dx [])) (fun u H2 => u = .non ∧ Q' H2) E := by
  have s1 := same_upd (o := .own x) fdx
  have f1 : upd H dx (.own x) x = none := by rw [upd_ne ndx.symm]; exact fx
  have s := s1.trans (same_upd (o := .ins CP dx []) f1)
  refine ⟨x, dx, sp, l, xs, ts, ks, ss, m, n, rfl, upd_same, hS.same s, s _ _ hl, fun b hb => ⟨(hx b hb).1.keeps fun _ _ e => s _ _ e, (hx b hb).2⟩, fun u v e H' s' => q1 u v e H' (s.trans s'), fun e t H' l' hp hl' fl nl x1 x12 keep => ⟨rfl, ?_⟩⟩
  have sH : Same H H' := fun b u e => keep b u (ne_of_none e fx) (s _ _ e)
  exact q2 e t H' l' ⟨hp, hS.same sH, hl', fun b hb => ⟨(hx b hb).1.keeps fun _ _ e => sH _ _ e, (hx b hb).2⟩, x1, x12⟩ sH
/-- the dict that the module wrote -/
structure TxtP (K : PySem.W.Frag) (w : World) (a : Nat → Addr) : Prop where
  wn : TxtW K w a
  l : WDct K w (a 90055)
  f : ∀ x ∈ pforms, ∃ q, PySem.W.nsIn K (a 90055) x.1 = some (some (.ref q)) ∧ ∀ H, FormAt K a H (.ref q) (some x.2)
theorem cut_tailP {x : V} {xs : List V} : cutV (x :: xs) (some 1) none = xs := by
  unfold cutV
  rw [HT.sIx_none, show (some (1 : Int)) = some ((1 : Nat) : Int) from rfl, HT.sIx_nat]
  have h : min 1 (x :: xs).length = 1 := by simp only [List.length_cons]; omega
  rw [h]
  simp
def spReadP (CS CP CE : Addr) : Sp := fun vs H Q E => ∃ (sp L : Addr) (ts : List (Str × Int)) (ks : List KeyE) (ss : List SvE) (m n : Nat) (sts : List StD), vs = [.ref sp, .ref L] ∧ SchAt CS sp H ts ks ss m n ∧ H L = some (.lst ((sts.map lineS).map V.str)) ∧ sts.length ≤ 100 ∧ (∀ st ∈ sts, StW st) ∧
  (dueP ts ss sts = none → ∀ q dx l xs t H', xs.map (·.2) = sts → PrO CS CP q dx sp l H' ts ks ss m n xs t → Same H H' → Q (.ref q) H') ∧
  (∀ u v, dueP ts ss sts = some (u, v) → ∀ H', Same H H' → Er2 CE "part" "at" (.str u) v H' E)
theorem ok_rdp (T : Txt K mg a d) (W : TxtP K w a) : FnOk P w K mg base (L2.CX P w) 9 (a 59) (d 59) ["schema", "lines"] (spReadP (a 48) (a 31) (a 5)) := by
  have G57 : FnOk P w K mg base (L2.CX P w) 8 (a 57) (d 57) ["at", "form", "words"] (spReadAt a K (a 6)) := ok_read_at T
  have G58 : FnOk P w K mg base CX0 1 (a 58) (d 58) ["kind", "things"] spStp := ok_stp T
  have G4100 : FnOk P w K mg base (L2.CX P w) 7 (a 4100) (d 4100) ["self", "schema", "steps"] (spPInit3 (a 48) (a 31) (a 5)) := ok_pinit3 T W.wn
  refine T.F59.okX sc_read_program (fun vs H Q E h => ?_) (fun cdv A outer s H vs Q E hr h => ?_)
  · obtain ⟨sp, L, ts, ks, ss, m, n, sts, rfl, _⟩ := h
    rfl
  · obtain ⟨sp, L, ts, ks, ss, m, n, sts, rfl, hS, hL, l3, hw, q0, q1⟩ := h
    refine ⟨_, (pss_cons (ps_set (i := 2) sc_read_program.nd rfl (.inl rfl) (pe_lst pa_nil))
  (pss_cons (ps_for (passes_of rfl) rfl (pi_enum (by rfl) T.z_enumerate (pa_cons (pv 1) pa_nil)) (pg_tup rfl (pgs_cons (pg_name (i := 3) sc_read_program.nd rfl (.inl rfl)) (pgs_cons (pg_name (i := 4) sc_read_program.nd rfl (.inl rfl)) pgs_nil)))
    (pss_cons (ps_set (i := 5) sc_read_program.nd rfl (.inl rfl) (pe_split (pv 4) pe_str))
      (pss_one (ps_expr (pe_bm PySem.F.plainAttrs_list PySem.F.slot_list_append PySem.F.type_list_append mt_append (pv 2) (pa_cons (pe_call G58 (hr.mono (by decide)) (by rfl) T.g58 T.F58.kp T.b58 .nil pass0 (pa_cons (pe_ix ix_list (pv 5) pe_int (fun _ _ => rfl)) (pa_cons (pe_call G57 (hr.mono (by decide)) (by rfl) T.g57 T.F57.kp T.b57 .nil (passes_call (takes_of rfl rfl rfl rfl) (fun _ _ _ _ h => h)) (pa_cons (pv 3) (pa_cons (pe_wget1 (pe_glob (v := .ref (a 90055)) (by rfl) T.wg__PROGRAM_FORMS rfl) (pe_ix ix_list (pv 5) pe_int (fun _ _ => rfl)) ⟨rfl, rfl, rfl, rfl⟩) (pa_cons (pe_slice sl_list (pv 5) (po_some pe_int) po_none) pa_nil)))) pa_nil))) pa_nil))))))
  (pss_one (ps_ret (pe_make T.M_31 G4100 (hr.mono (by decide)) (by rfl) T.cg_31 T.b4100 .nil (passes_call (takes_of rfl rfl rfl rfl) (fun _ _ _ _ h => h)) (pa_cons (pv 0) (pa_cons (pv 2) pa_nil))))))), ?_⟩
    refine ⟨Nat.zero_le _, fun Pl hPl => ?_⟩
    have s1 := same_upd (o := .lst []) hPl
    have e1 : upd H Pl (.lst []) Pl = some (.lst []) := upd_same
    generalize upd H Pl (.lst []) = H1 at s1 e1 ⊢
    refine ⟨_, rfl, L, (sts.map lineS).map V.str, rfl, .of (s1 _ _ hL), for_it (walk_enum (K := K) (a := L) (xs := (sts.map lineS).map V.str)) (fun i σ G => ∃ (xs : List StE) (y3 y4 y5 : Option V), σ = [some (.ref sp), some (.ref L), some (.ref Pl), y3, y4, y5] ∧ G Pl = some (.lst (refsOf xs)) ∧ xs.map (·.2) = sts.take i ∧ (∀ b ∈ xs, StAt G b.1 b.2 ∧ b.1 ≠ Pl) ∧ Same H G)
      ⟨[], none, none, none, rfl, e1, rfl, (fun b h => nomatch h), s1⟩ (fun i σ G _ hp' => ?_) (fun i v σ G G' li hp' hy => ?_) (fun σ G hp' => ?_)⟩
    · obtain ⟨_, _, _, _, _, _, _, _, sG⟩ := hp'
      exact .of (sG _ _ hL)
    · obtain ⟨xs, y3, y4, y5, rfl, hPG, ex, hst, sG⟩ := hp'
      obtain ⟨T', x, y, rfl, hT, rfl, hx, hy⟩ := hy
      cases hx
      obtain ⟨ln, hln, rfl⟩ := map_at hy
      obtain ⟨st, hst1, rfl⟩ := map_at hln
      have hsw := hw st (List.mem_of_getElem? hst1)
      have lix : xs.length = i := by
        have h1 : (xs.map (·.2)).length = xs.length := List.length_map ..
        rw [ex, List.length_take] at h1
        have := (List.getElem?_eq_some_iff.mp hst1).1
        omega
      have lis : i < sts.length := (List.getElem?_eq_some_iff.mp hst1).1
      have hlo := line_ok hsw
      have zT := same_upd (o := .tup [.int (i : Nat), .str (lineS st)]) hT
      have eT : upd G T' (.tup [.int (i : Nat), .str (lineS st)]) T' = some (.tup [.int (i : Nat), .str (lineS st)]) := upd_same
      generalize upd G T' (.tup [.int (i : Nat), .str (lineS st)]) = G1 at zT eT ⊢
      refine ⟨T', _, rfl, .of eT, rfl, _, _, rfl, _, _, rfl, rfl, ?_⟩
      refine ⟨_, rfl, ⟨_, rfl⟩, _, _, rfl, rfl, by decide, ?_, fun W1 hW1 => ?_⟩
      · exact Nat.le_trans (Nat.add_le_add_right hlo.1 2) (by decide)
      have zW := same_upd (o := .lst ((Txt.split (lineS st) " ").map V.str)) hW1
      have eW : upd G1 W1 (.lst ((Txt.split (lineS st) " ").map V.str)) W1 = some (.lst ((splitW (lineS st)).map V.str)) := upd_same
      generalize upd G1 W1 (.lst ((Txt.split (lineS st) " ").map V.str)) = G2 at zW eW ⊢
      have hwk := hlo.2.2
      have hwl := hlo.2.1
      rw [line_split hsw] at eW hwk hwl
      obtain ⟨fo, hk, r, hs, hd⟩ := form_of hsw
      rw [hs] at eW hwk hwl
      rw [List.length_cons] at hwl
      rw [List.map_cons] at eW
      have sGW := zT.trans zW
      refine ⟨_, rfl, .inl ⟨rfl, _, .of (sGW _ _ hPG)⟩, ?_⟩
      refine ⟨_, rfl, W1, _, _, _, rfl, rfl, .of eW, atI_nat (j := 0) rfl, ?_⟩
      obtain ⟨qf, hqf, hform⟩ := W.f _ hk
      refine ⟨_, rfl, _, rfl, W.l, _, rfl, W1, _, _, _, rfl, rfl, .of eW, atI_nat (j := 0) rfl, st.kind, rfl, .inl ⟨.ref qf, .ref qf, hqf, rfl, ?_⟩⟩
      refine ⟨_, rfl, _, rfl, W1, _, rfl, .of eW, fun R1 hR1 => ?_⟩
      have zR := same_upd (o := .lst (cutV (V.str st.kind :: r.map V.str) (some 1) none)) hR1
      have eR : upd G2 R1 (.lst (cutV (V.str st.kind :: r.map V.str) (some 1) none)) R1 = some (.lst (r.map V.str)) := by rw [cut_tailP]; exact upd_same
      generalize upd G2 R1 (.lst (cutV (V.str st.kind :: r.map V.str) (some 1) none)) = G3 at zR eR ⊢
      refine ⟨_, _, R1, some fo, r, rfl, hform _, eR, fun x hx => hwk x (List.mem_cons_of_mem _ hx), by omega, (fun e => by rw [show readF (some fo) r = readO fo.1 fo.2 r from rfl, hd] at e; cases e), fun ds' e r2 xs2 G4 hr2 hr3 hD s4 => ?_⟩
      have e : st.things = ds' := by
        rw [show readF (some fo) r = readO fo.1 fo.2 r from rfl, hd] at e
        exact Option.some.inj e
      subst e
      have sG4 := (sGW.trans zR).trans s4
      refine ⟨fun _ => False, 1, r2, xs2, st, rfl, hr2, hD _ (fun x h => h.elim), hsw.len, fun p5 G5 np fp hst5 s5 => ?_⟩
      have sG5 := sG4.trans s5
      have np5 : p5 ≠ Pl := fun e => by
        rw [e, sG4 _ _ hPG] at fp
        cases fp
      have keepT : ∀ b us, G5 b = some (.tup us) → upd G5 Pl (.lst (refsOf xs ++ [.ref p5])) b = some (.tup us) := fun b us e => by
        rw [upd_ne (fun z => by rw [z, sG5 _ _ hPG] at e; cases e)]
        exact e
      refine ⟨Pl, _, _, rfl, rfl, sG5 _ _ hPG, small1000 (by unfold refsOf; rw [List.length_map]; omega), xs ++ [(p5, st)], _, _, _, rfl, ?_, ?_, fun b hb => ?_, fun b o e => ?_⟩
      · rw [upd_same]
        unfold refsOf
        rw [List.map_append]
        rfl
      · rw [List.map_append, ex, take_snoc hst1]
        rfl
      · rcases List.mem_append.mp hb with hb | hb
        · exact ⟨((hst b hb).1.keeps fun _ _ e => sG5 _ _ e).keeps keepT, (hst b hb).2⟩
        · rw [List.mem_singleton.mp hb]
          exact ⟨hst5.keeps keepT, np5⟩
      · rw [upd_ne (ne_of_none e hPl)]
        exact sG5 _ _ (sG b o e)
    · obtain ⟨xs, y3, y4, y5, rfl, hPG, ex, hst, sG⟩ := hp'
      have ex : xs.map (·.2) = sts := by
        rw [ex, List.length_map, List.length_map, List.take_length]
      refine ⟨_, rfl, _, rfl, fun x dx fx fdx ndx => mk_prog3 (hS.same sG) hPG (fun b hb => ⟨(hst b hb).1, (hw b.2 (by rw [← ex]; exact List.mem_map.mpr ⟨b, hb, rfl⟩)).ok⟩) fx fdx ndx (fun u v e H' s' => q1 u v (by rw [← ex]; exact e) H' (sG.trans s')) fun e t H' l' hP s' => q0 (by rw [← ex]; exact e) x dx l' xs t H' ex hP (sG.trans s')⟩
end
section
variable {P : Program} {w : World} {K : PySem.W.Frag} {mg : Str → Option Value} {base : Heap} {a : Nat → Addr} {d : Nat → FuncData}
def spWord2 : Sp := fun vs H Q _ => ∃ (p : Addr), vs = [.ref p] ∧ Cell H p ∧ ∀ (s : Str) (H' : Hp), Wd s → Chs p H H' → Q (.str s) H'
theorem ok_word3 (T : Txt K mg a d) : FnOk P w K mg base CX0 2 (a 68) (d 68) ["_law_state_here"] spWord2 := by
  have G67 : FnOk P w K mg base CX0 1 (a 67) (d 67) ["_law_state_here", "_law_many"] spPick2 := ok_pick2 T
  refine T.F68.ok sc__law_word (fun vs H Q E h => ?_) (fun cdv A outer s H vs Q E hr h => ?_)
  · obtain ⟨p, rfl, _⟩ := h
    rfl
  · obtain ⟨p, rfl, hP, q⟩ := h
    refine ⟨_, (pss_cons (ps_set (i := 1) sc__law_word.nd rfl (.inr rfl) pe_str)
  (pss_cons (ps_set (i := 2) sc__law_word.nd rfl (.inl rfl) (pe_op op_add pe_int (pe_call G67 (hr.mono (by decide)) (by rfl) T.g67 T.F67.kp T.b67 .nil pass0 (pa_cons (pv 0) (pa_cons pe_int pa_nil)))))
  (pss_one (ps_ret (pe_join pe_str (pe_lc (own := [("_law_k", 3)]) rfl sc__law_word.nd (pi_range1 (by rfl) T.z_range (pa_cons (pv 2) pa_nil)) (blkOk_by (N := ["_law_state_here", "_law_letters", "_law_size", "_law_k"]) (sc := defScope s__law_word) (by decide +kernel)) (fun _ _ _ _ _ => pg_name (i := 3) sc__law_word.nd rfl (.inl rfl)) (fun _ _ _ _ _ => pts_nil) (fun _ _ _ _ _ => (pe_ix ix_str (pv 1) (pe_call G67 (hr.mono (by decide)) (by rfl) T.g67 T.F67.kp T.b67 .nil pass0 (pa_cons (pv 0) (pa_cons pe_int pa_nil))) (fun _ _ => rfl))))))))), ?_⟩
    refine ⟨_, rfl, p, 8, rfl, hP, by decide, by decide, fun m H1 m0 m1 C1 => ⟨_, _, rfl, rfl, ⟨_, rfl⟩, _, rfl, _, rfl, by omega, by omega, fun D hD => ?_⟩⟩
    have nD : D ≠ p := C1.1.ne hD
    refine lc_range (lo := 0) (n := (1 + m).toNat) (fun i H' => ∃ cs : List Nat, H' D = some (.lst ((cs.map sgn).map V.str)) ∧ cs.length = i ∧ (∀ c ∈ cs, 97 ≤ c ∧ c ≤ 122) ∧ Chs p H H') ⟨[], upd_same, rfl, (fun c h => by cases h), C1.mut (C1.free hP hD) nD⟩ (fun i H' hi hp => ?_) (fun H' hp => ?_)
    · obtain ⟨cs, c1, c2, c3, C2⟩ := hp
      refine ⟨rfl, ?_⟩
      have hi8 : i < 8 := by omega
      refine ⟨_, rfl, _, rfl, p, 26, rfl, C2.1, by decide, by decide, fun r H'' r0 r1 C3 => ⟨_, r, 97 + r.toNat, rfl, rfl, by decide +kernel, at_g (show r = ((r.toNat : Nat) : Int) by omega) (letter_at r.toNat (by omega)), _, C3.at nD c1, ?_, cs ++ [97 + r.toNat], ?_, ?_, fun c hc => ?_, (C2.trans C3).mut (C1.free hP hD) nD⟩⟩
      · rw [List.length_map, List.length_map, c2]
        exact small1000 (by omega)
      · rw [List.map_append, List.map_append]
        exact upd_same
      · rw [List.length_append, c2]
        rfl
      · rcases List.mem_append.mp hc with h | h
        · exact c3 c h
        · rw [List.mem_singleton.mp h]
          omega
    · obtain ⟨cs, c1, c2, c3, C2⟩ := hp
      have l1 : ((cs.map sgn).map (·.length)).sum = cs.length := by
        rw [List.map_map]
        clear c1 c2 c3
        induction cs with
        | nil => rfl
        | cons c cs ih => rw [List.map_cons, List.sum_cons, ih, List.length_cons]; show 1 + cs.length = _; omega
      refine ⟨_, D, cs.map sgn, rfl, rfl, .inl (.of c1), ?_, q _ H' ?_ C2⟩
      · rw [l1, List.length_map, c2]
        show _ + _ * 0 ≤ 16777216
        omega
      · rw [TL.join_eq, join_sgn]
        exact ⟨by show 1 ≤ (cs.toArray).size; rw [List.size_toArray]; omega, by show (cs.toArray).size ≤ 8; rw [List.size_toArray]; omega, fun c hc => c3 c (by simpa using hc)⟩
theorem term_w {s : Str} (h : Wd s) : termD (.str s) = true := by
  unfold termD
  rw [Bool.or_eq_true]
  exact .inl (wd_b h)
theorem term_i {i : Int} (h : -(10 ^ 30) < i ∧ i < 10 ^ 30) : termD (.int i) = true := by
  unfold termD
  rw [Bool.or_eq_true]
  exact .inl (decide_eq_true (by omega))
theorem term_v {i : Int} (h : 0 ≤ i ∧ i < 10 ^ 30) : termD (.tuple [.int i]) = true := by
  unfold termD
  rw [Bool.or_eq_true]
  exact .inr (decide_eq_true (by omega))
theorem wd_da {C : Addr → Prop} {H : Hp} {n : Nat} {s : Str} (h : Wd s) : DA C H n (.str s) (.str s) := Sc.da (.str s (by have := h.2.1; omega) fun c hc => by have := h.2.2 c hc; omega)
end
section
variable {P : Program} {w : World} {K : PySem.W.Frag} {mg : Str → Option Value} {base : Heap} {a : Nat → Addr} {d : Nat → FuncData}
def spVal6 : Sp := fun vs H Q _ => ∃ (p : Addr), vs = [.ref p] ∧ Cell H p ∧ ∀ (k : Key) (H' : Hp), KVal k → Chs p H H' → Q (kV k) H'
theorem kval_i {i : Int} (h : -(10 ^ 30) < i ∧ i < 10 ^ 30) : KVal (.inl i) := by
  show -(10 ^ 30 - 1) ≤ i ∧ i ≤ 10 ^ 30 - 1
  omega
theorem ok_lvalue6 (T : Txt K mg a d) : FnOk P w K mg base CX0 4 (a 69) (d 69) ["_law_state_here"] spVal6 := by
  have G67 : FnOk P w K mg base CX0 1 (a 67) (d 67) ["_law_state_here", "_law_many"] spPick2 := ok_pick2 T
  have G68 : FnOk P w K mg base CX0 2 (a 68) (d 68) ["_law_state_here"] spWord2 := ok_word3 T
  refine T.F69.ok sc__law_value (fun vs H Q E h => ?_) (fun cdv A outer s H vs Q E hr h => ?_)
  · obtain ⟨p, rfl, _⟩ := h
    rfl
  · obtain ⟨p, rfl, hP, q⟩ := h
    refine ⟨_, (pss_cons (ps_set (i := 1) sc__law_value.nd rfl (.inl rfl) (pe_call G67 (hr.mono (by decide)) (by rfl) T.g67 T.F67.kp T.b67 .nil pass0 (pa_cons (pv 0) (pa_cons pe_int pa_nil))))
  (pss_cons (ps_if (pt_cmpR op_eq (pv 1) pe_int (nomark _))
    (pss_one (ps_ret (pe_call G68 (hr.mono (by decide)) (by rfl) T.g68 T.F68.kp T.b68 .nil pass0 (pa_cons (pv 0) pa_nil))))
    pss_nil)
  (pss_cons (ps_if (pt_cmpR op_eq (pv 1) pe_int (nomark _))
    (pss_one (ps_ret (pe_op op_sub (pe_call G67 (hr.mono (by decide)) (by rfl) T.g67 T.F67.kp T.b67 .nil pass0 (pa_cons (pv 0) (pa_cons pe_int pa_nil))) pe_int)))
    pss_nil)
  (pss_cons (ps_if (pt_cmpR op_eq (pv 1) pe_int (nomark _))
    (pss_one (ps_ret (pe_op op_sub (pe_call G67 (hr.mono (by decide)) (by rfl) T.g67 T.F67.kp T.b67 .nil pass0 (pa_cons (pv 0) (pa_cons (pe_op op_mul pe_int (pe_op op_pow pe_int pe_int)) pa_nil))) (pe_op op_pow pe_int pe_int))))
    pss_nil)
  (pss_cons (ps_set (i := 2) sc__law_value.nd rfl (.inl rfl) (pe_op op_sub (pe_op op_sub (pe_op op_pow pe_int pe_int) pe_int) (pe_call G67 (hr.mono (by decide)) (by rfl) T.g67 T.F67.kp T.b67 .nil pass0 (pa_cons (pv 0) (pa_cons (pe_op op_pow pe_int pe_int) pa_nil)))))
  (pss_one (ps_ret (pe_ifExp (pt_cmpR op_eq (pv 1) pe_int (nomark _)) (pv 2) (pe_un un_neg (pv 2)))))))))), ?_⟩
    refine ⟨_, rfl, p, 5, rfl, hP, by decide, by decide, fun r H1 r0 r1 C1 => ?_⟩
    refine ⟨_, rfl, rfl, _, rfl, ite_eqI (fun _ => ?_) (fun n0 => ?_)⟩
    · exact ⟨_, rfl, p, rfl, C1.1, fun s H2 hs C2 => q (.inr s) H2 hs (C1.trans C2)⟩
    refine ⟨_, rfl, rfl, _, rfl, ite_eqI (fun _ => ?_) (fun n1 => ?_)⟩
    · exact ⟨_, rfl, p, 5, rfl, C1.1, by decide, by decide, fun m H2 m0 m1 C2 => ⟨_, _, rfl, rfl, q (.inl (m - 2)) H2 (kval_i (by omega)) (C1.trans C2)⟩⟩
    refine ⟨_, rfl, rfl, _, rfl, ite_eqI (fun _ => ?_) (fun n2 => ?_)⟩
    · refine ⟨_, rfl, _, _, rfl, rfl, ⟨by decide, by decide, by decide⟩, _, _, rfl, rfl, .inl ⟨by decide, by decide⟩, p, 2 * 10 ^ 17, rfl, C1.1, by decide, by decide, fun m H2 m0 m1 C2 => ⟨_, _, rfl, rfl, ⟨by decide, by decide, by decide⟩, _, _, rfl, rfl, q (.inl (m - 10 ^ 17)) H2 (kval_i (by omega)) (C1.trans C2)⟩⟩
    refine ⟨_, _, rfl, rfl, ⟨by decide, by decide, by decide⟩, _, _, rfl, rfl, ?_⟩
    refine ⟨_, rfl, _, _, rfl, rfl, ⟨by decide, by decide, by decide⟩, p, 10 ^ 17, rfl, C1.1, by decide, by decide, fun m H2 m0 m1 C2 => ⟨_, _, rfl, rfl, ?_⟩⟩
    have C2 := C1.trans C2
    have nb : ∃ n : Int, (10 : Int) ^ (30 : Int).toNat - 1 - m = n ∧ 0 ≤ n ∧ n < 10 ^ 30 := ⟨_, rfl, by show 0 ≤ (10 : Int) ^ 30 - 1 - m; omega, by show (10 : Int) ^ 30 - 1 - m < 10 ^ 30; omega⟩
    obtain ⟨n, en, n0, n1'⟩ := nb
    show gName 2 (.int ((10 : Int) ^ (30 : Int).toNat - 1 - m)) _ _ _
    rw [en]
    refine ⟨_, rfl, rfl, _, rfl, ite_eqI (fun _ => ⟨_, rfl, q (.inl n) H2 (kval_i (by omega)) C2⟩) (fun _ => ⟨_, rfl, _, rfl, q (.inl (-n)) H2 (kval_i (by omega)) C2⟩)⟩
def spItem6 : Sp := fun vs H Q _ => ∃ (p : Addr) (wd : Int), vs = [.ref p, .int wd] ∧ Cell H p ∧ 0 ≤ wd ∧ wd ≤ 12 ∧ ∀ (v : V) (it : ItD) (H' : Hp), ItAt H' v it → ItW it → itIn wd it = true → Chs p H H' → Q v H'
theorem ok_litem6 (T : Txt K mg a d) : FnOk P w K mg base CX0 5 (a 70) (d 70) ["_law_state_here", "_law_width"] spItem6 := by
  have G67 : FnOk P w K mg base CX0 1 (a 67) (d 67) ["_law_state_here", "_law_many"] spPick2 := ok_pick2 T
  have G69 : FnOk P w K mg base CX0 4 (a 69) (d 69) ["_law_state_here"] spVal6 := ok_lvalue6 T
  refine T.F70.ok sc__law_item (fun vs H Q E h => ?_) (fun cdv A outer s H vs Q E hr h => ?_)
  · obtain ⟨p, wd, rfl, _⟩ := h
    rfl
  · obtain ⟨p, wd, rfl, hP, w0, w1, q⟩ := h
    refine ⟨_, (pss_cons (ps_set (i := 2) sc__law_item.nd rfl (.inl rfl) (pe_call G67 (hr.mono (by decide)) (by rfl) T.g67 T.F67.kp T.b67 .nil pass0 (pa_cons (pv 0) (pa_cons (pe_op op_add (pe_op op_mul pe_int (pv 1)) pe_int) pa_nil))))
  (pss_one (ps_ret (pe_ifExp (pt_cmpR op_lt (pv 2) (pe_op op_mul pe_int (pv 1)) (nomark _)) (pe_op op_fdivW (pv 2) pe_int) (pe_tup (pa_cons (pe_call G69 (hr.mono (by decide)) (by rfl) T.g69 T.F69.kp T.b69 .nil pass0 (pa_cons (pv 0) pa_nil)) pa_nil)))))), ?_⟩
    refine ⟨_, rfl, _, rfl, _, _, rfl, rfl, .inl ⟨by omega, by omega⟩, _, _, rfl, rfl, p, 2 * wd + 1, rfl, hP, by omega, Nat.lt_of_le_of_lt (by omega : (2 * wd + 1).natAbs ≤ 25) (by decide), fun r H1 r0 r1 C1 => ?_⟩
    refine ⟨_, rfl, _, rfl, _, _, rfl, rfl, .inl ⟨by omega, by omega⟩, _, _, rfl, rfl, _, rfl, ite_d (fun h1 => ?_) (fun h1 => ?_)⟩
    · have h1 : r < 2 * wd := h1
      refine ⟨_, rfl, _, _, rfl, rfl, wide_div (by decide) (show (2 : Int).natAbs < 2 ^ 64 by decide) (by decide) (by decide), ?_⟩
      exact q _ (.idx (r / 2)) H1 rfl (show 0 ≤ r / 2 ∧ r / 2 < 10 ^ 30 by omega) (decide_eq_true (by omega)) C1
    · refine ⟨_, rfl, p, rfl, C1.1, fun k H2 hk C2 => ⟨by show 1 ≤ sizeLine; decide, fun t ht => ?_⟩⟩
      have zt := same_upd (o := .tup [kV k]) ht
      exact q _ (.val k) _ ⟨t, rfl, upd_same⟩ hk rfl ((C1.trans C2).sm zt)
end
/-! ### the sizes of the relations so far, as the law keeps them -/
theorem val_app {kvs us : List (Key × V)} {k : Key} {v : V} (h : valV kvs k = some v) : valV (kvs ++ us) k = some v := by
  induction kvs with
  | nil => cases h
  | cons q r ih =>
    by_cases e : q.1 = k
    · have h1 : valV (q :: r) k = some q.2 := by unfold valV; simp [List.find?, e]
      rw [h1] at h
      cases h
      show valV (q :: (r ++ us)) k = _
      unfold valV
      simp [List.find?, e]
    · rw [valV_neg e] at h
      show valV (q :: (r ++ us)) k = _
      rw [valV_neg e]
      exact ih h
theorem val_snoc {kvs : List (Key × V)} {k : Key} {v : V} (h : valV kvs k = none) : valV (kvs ++ [(k, v)]) k = some v := by
  induction kvs with
  | nil => unfold valV; simp [List.find?]
  | cons q r ih =>
    by_cases e : q.1 = k
    · have h1 : valV (q :: r) k = some q.2 := by unfold valV; simp [List.find?, e]
      rw [h1] at h
      cases h
    · rw [valV_neg e] at h
      show valV (q :: (r ++ [(k, v)])) k = _
      rw [valV_neg e]
      exact ih h
def Shp (H : Hp) (z : Addr) (ns : List Str) (sz : Str → Option SzD) : Prop := ∃ kvs : List (Key × V), H z = some (.dK kvs) ∧ kvs.map (·.1) = ns.map Sum.inr ∧ ns.Nodup ∧ (∀ n ∈ ns, Wd n) ∧ ∀ n, (n ∉ ns → sz n = none) ∧ (n ∈ ns → ∃ t b, sz n = some t ∧ valV kvs (.inr n) = some (.ref b) ∧ H b = some (.tup (szV t)))
theorem Shp.keep {H H' : Hp} {z : Addr} {ns : List Str} {sz : Str → Option SzD} (h : Shp H z ns sz) (k : ∀ b o, (∀ xs, o ≠ HO.lst xs) → H b = some o → H' b = some o) : Shp H' z ns sz := by
  obtain ⟨kvs, h1, h2, h3, h4, h5⟩ := h
  refine ⟨kvs, k _ _ (fun _ e => nomatch e) h1, h2, h3, h4, fun n => ⟨(h5 n).1, fun hn => ?_⟩⟩
  obtain ⟨t, b, e1, e2, e3⟩ := (h5 n).2 hn
  exact ⟨t, b, e1, e2, k _ _ (fun _ e => nomatch e) e3⟩
theorem Shp.same {H H' : Hp} {z : Addr} {ns : List Str} {sz : Str → Option SzD} (h : Shp H z ns sz) (s : Same H H') : Shp H' z ns sz := h.keep fun _ _ _ e => s _ _ e
theorem Shp.chs {H H' : Hp} {z p : Addr} {ns : List Str} {sz : Str → Option SzD} (h : Shp H z ns sz) (hP : Cell H p) (c : Chs p H H') : Shp H' z ns sz := h.keep fun b o n e => c.at (cell_ne hP e n) e
theorem Shp.no {H : Hp} {z : Addr} {ns : List Str} {sz : Str → Option SzD} (h : Shp H z ns sz) (n : Str) : ∃ o, DGet H z (.str n) o ∧ o.isSome = decide (n ∈ ns) := by
  obtain ⟨kvs, h1, h2, h3, h4, h5⟩ := h
  refine ⟨_, DGet.k (k := .inr n) h1, ?_⟩
  by_cases hn : n ∈ ns
  · obtain ⟨t, b, _, e2, _⟩ := (h5 n).2 hn
    rw [e2, decide_eq_true hn]
    rfl
  · rw [valV_no (by rw [h2]; exact inr_no hn), decide_eq_false hn]
    rfl
theorem Shp.get {H : Hp} {z : Addr} {ns : List Str} {sz : Str → Option SzD} (h : Shp H z ns sz) {n : Str} (hn : n ∈ ns) : ∃ t b, sz n = some t ∧ DGet H z (.str n) (some (.ref b)) ∧ H b = some (.tup (szV t)) := by
  obtain ⟨kvs, h1, h2, h3, h4, h5⟩ := h
  obtain ⟨t, b, e1, e2, e3⟩ := (h5 n).2 hn
  exact ⟨t, b, e1, e2 ▸ DGet.k (k := .inr n) h1, e3⟩
theorem Shp.put {H : Hp} {z b : Addr} {ns : List Str} {sz : Str → Option SzD} (h : Shp H z ns sz) {n : Str} {t : SzD} (hn : n ∉ ns) (hw : Wd n) (hb : H b = some (.tup (szV t))) : ∃ kvs, H z = some (.dK kvs) ∧ kvs.length = ns.length ∧ Shp (upd H z (.dK (putK kvs (.inr n) (.ref b)))) z (ns ++ [n]) (putS sz n t) := by
  obtain ⟨kvs, h1, h2, h3, h4, h5⟩ := h
  have hno : valV kvs (Sum.inr n) = none := valV_no (by rw [h2]; exact inr_no hn)
  refine ⟨kvs, h1, by have := congrArg List.length h2; rwa [List.length_map, List.length_map] at this, _, upd_same, ?_, ?_, ?_, fun x => ?_⟩
  · rw [putK_new _ hno, List.map_append, List.map_append, h2]
    rfl
  · exact List.nodup_append.mpr ⟨h3, by simp, fun x hx y hy e => hn (by rw [List.mem_singleton.mp hy] at e; rw [← e]; exact hx)⟩
  · intro x hx
    rcases List.mem_append.mp hx with hx | hx
    · exact h4 x hx
    · rw [List.mem_singleton.mp hx]
      exact hw
  · have kp : ∀ c xs, H c = some (.tup xs) → upd H z (.dK (putK kvs (.inr n) (.ref b))) c = some (.tup xs) := fun c xs e => by
      rw [upd_ne (fun z' => by rw [z', h1] at e; cases e)]
      exact e
    refine ⟨fun hx => ?_, fun hx => ?_⟩
    · have h6 : x ≠ n := fun e => hx (by rw [e]; simp)
      unfold putS
      rw [if_neg h6]
      exact (h5 x).1 fun h => hx (List.mem_append_left _ h)
    · by_cases e : x = n
      · subst e
        refine ⟨t, b, by unfold putS; rw [if_pos rfl], ?_, kp _ _ hb⟩
        rw [putK_new _ hno]
        exact val_snoc hno
      · have hx' : x ∈ ns := by
          rcases List.mem_append.mp hx with h | h
          · exact h
          · exact absurd (List.mem_singleton.mp h) e
        obtain ⟨t', b', e1, e2, e3⟩ := (h5 x).2 hx'
        refine ⟨t', b', by unfold putS; rw [if_neg e]; exact e1, ?_, kp _ _ e3⟩
        rw [putK_new _ hno]
        exact val_app e2
theorem wd12 : ∀ s ∈ (["m", "n", "o", "p", "q", "r", "s", "t", "u", "v", "w", "x", "start", "call", "both", "pair", "where", "take"] : List Str), Wd s := by
  have h : ((["m", "n", "o", "p", "q", "r", "s", "t", "u", "v", "w", "x", "start", "call", "both", "pair", "where", "take"] : List Str).all fun s => decide (1 ≤ s.length) && decide (s.length ≤ 8) && s.cps.toList.all fun c => decide (97 ≤ c) && decide (c ≤ 122)) = true := by decide +kernel
  intro s hs
  have h1 := List.all_eq_true.mp h s hs
  simp only [Bool.and_eq_true, List.all_eq_true, decide_eq_true_eq] at h1
  exact ⟨h1.1.1, h1.1.2, fun c hc => h1.2 c hc⟩
def twelve : List Str := ["m", "n", "o", "p", "q", "r", "s", "t", "u", "v", "w", "x"]
def sixK : List Str := ["start", "call", "both", "pair", "where", "take"]
theorem nodup12 : twelve.Nodup := by decide +kernel
section
variable {P : Program} {w : World} {K : PySem.W.Frag} {mg : Str → Option Value} {base : Heap} {a : Nat → Addr} {d : Nat → FuncData}
def spName6 : Sp := fun vs H Q _ => ∃ (p z : Addr) (ns : List Str) (sz : Str → Option SzD), vs = [.ref p, .ref z] ∧ Cell H p ∧ Shp H z ns sz ∧ ns.length ≤ 11 ∧ ∀ (n : Str) (H' : Hp), Wd n → n ∉ ns → Chs p H H' → Q (.str n) H'
theorem ok_lname6 (T : Txt K mg a d) : FnOk P w K mg base CX0 4 (a 71) (d 71) ["_law_state_here", "_law_shapes"] spName6 := by
  have G67 : FnOk P w K mg base CX0 1 (a 67) (d 67) ["_law_state_here", "_law_many"] spPick2 := ok_pick2 T
  have G68 : FnOk P w K mg base CX0 2 (a 68) (d 68) ["_law_state_here"] spWord2 := ok_word3 T
  refine T.F71.ok sc__law_name (fun vs H Q E h => ?_) (fun cdv A outer s H vs Q E hr h => ?_)
  · obtain ⟨p, z, ns, sz, rfl, _⟩ := h
    rfl
  · obtain ⟨p, z, ns, sz, rfl, hP, hZ, l11, q⟩ := h
    refine ⟨_, (pss_cons (ps_set (i := 2) sc__law_name.nd rfl (.inl rfl) (pe_call G68 (hr.mono (by decide)) (by rfl) T.g68 T.F68.kp T.b68 .nil pass0 (pa_cons (pv 0) pa_nil)))
  (Evl.pss_cut (ps_if (pt_cmpR op_eq (pe_call G67 (hr.mono (by decide)) (by rfl) T.g67 T.F67.kp T.b67 .nil pass0 (pa_cons (pv 0) (pa_cons pe_int pa_nil))) pe_int (nomark _))
    (pss_one (ps_set (i := 2) sc__law_name.nd rfl (.inl rfl) (pe_ix ix_list (pe_lst (pa_cons pe_str (pa_cons pe_str (pa_cons pe_str (pa_cons pe_str (pa_cons pe_str (pa_cons pe_str pa_nil))))))) (pe_call G67 (hr.mono (by decide)) (by rfl) T.g67 T.F67.kp T.b67 .nil pass0 (pa_cons (pv 0) (pa_cons pe_int pa_nil))) (fun _ _ => rfl))))
    pss_nil)
  (Evl.pss_cut (ps_if (pt_cmp (pc_din (hu_of hr) (pv 2) (pv 1)))
    (pss_cons (ps_set (i := 3) sc__law_name.nd rfl (.inl rfl) (pe_lst (pa_cons pe_str (pa_cons pe_str (pa_cons pe_str (pa_cons pe_str (pa_cons pe_str (pa_cons pe_str (pa_cons pe_str (pa_cons pe_str (pa_cons pe_str (pa_cons pe_str (pa_cons pe_str (pa_cons pe_str pa_nil))))))))))))))
      (pss_one (ps_set (i := 2) sc__law_name.nd rfl (.inl rfl) (pe_ix ix_list (pe_lc (own := [("_law_one", 4)]) rfl sc__law_name.nd (pi_list (pv 3)) (blkOk_by (N := ["_law_state_here", "_law_shapes", "_law_name_here", "_law_names", "_law_one"]) (sc := defScope s__law_name) (by decide +kernel)) (fun _ _ _ _ _ => pg_name (i := 4) sc__law_name.nd rfl (.inl rfl)) (fun _ _ _ _ _ => (pts_one (pt_cmp (pc_dnotin (hu_of hr) (pv 4) (pv 1))))) (fun _ _ _ _ _ => (pv 4))) pe_int (fun _ _ => rfl)))))
    pss_nil)
  (pss_one (ps_ret (pv 2)))))), ?_⟩
    refine ⟨_, rfl, p, rfl, hP, fun s0 H1 hs0 C1 => ?_⟩
    have hZ1 := hZ.chs hP C1
    refine ⟨fun σ H' => ∃ n : Str, σ = [some (.ref p), some (.ref z), some (.str n), none, none] ∧ Wd n ∧ Chs p H H', ?_, ?_⟩
    · refine ⟨_, rfl, p, 3, rfl, C1.1, by decide, by decide, fun r H2 r0 r1 C2 => ⟨rfl, _, rfl, ite_eqI (fun _ => ?_) (fun _ => ⟨s0, rfl, hs0, C1.trans C2⟩)⟩⟩
      have C12 := C1.trans C2
      refine ⟨by show 6 ≤ sizeLine; decide, fun L hL => ?_⟩
      have nL := C12.1.ne hL
      have C3 := C12.mut (o := .lst (sixK.map V.str)) (C12.free hP hL) nL
      refine ⟨_, rfl, p, 6, rfl, C3.1, by decide, by decide, fun r2 H3 r20 r21 C4 => ?_⟩
      obtain ⟨v, hv⟩ := at_some (xs := sixK.map V.str) r20 r21
      obtain ⟨n, hn, rfl⟩ := List.mem_map.mp (atI_mem hv)
      exact ⟨_, _, _, _, rfl, rfl, .of (C4.at nL upd_same), hv, n, rfl, wd12 n (List.mem_append_right twelve hn), C3.trans C4⟩
    rintro σ H2 ⟨s, rfl, hs, C2⟩
    have hZ2 := hZ.chs hP C2
    refine ⟨fun σ H' => ∃ n : Str, ∃ y3, σ = [some (.ref p), some (.ref z), some (.str n), y3, none] ∧ Wd n ∧ n ∉ ns ∧ Chs p H H', ?_, ?_⟩
    · obtain ⟨o, hg, ho⟩ := hZ2.no s
      refine ⟨_, rfl, _, rfl, z, _, rfl, hg, _, rfl, ?_⟩
      rw [ho]
      refine ite_d (fun hm => ?_) (fun hm => ⟨s, _, rfl, hs, hm, C2⟩)
      refine ⟨by show 12 ≤ sizeLine; decide, fun L hL => ?_⟩
      have nLp := C2.1.ne hL
      have C3 := C2.mut (o := .lst (twelve.map V.str)) (C2.free hP hL) nLp
      have hZ3 := hZ2.same (same_upd (o := .lst (twelve.map V.str)) hL)
      have eL : upd H2 L (.lst (twelve.map V.str)) L = some (.lst (twelve.map V.str)) := upd_same
      show gName 3 (.ref L) _ (upd H2 L (.lst (twelve.map V.str))) _
      generalize upd H2 L (.lst (twelve.map V.str)) = H3 at C3 hZ3 eL ⊢
      refine gName_run ?_
      refine ⟨_, rfl, L, rfl, ⟨_, .of eL⟩, fun D hD => ?_⟩
      have nD : D ≠ p := C3.1.ne hD
      have nDL : D ≠ L := (ne_of_none eL hD).symm
      have dH := C3.free hP hD
      refine lc_list (K := K) (a := L) (xs := twelve.map V.str) (fun i H' => H' D = some (.lst (((twelve.take i).filter fun n => !decide (n ∈ ns)).map V.str)) ∧ Same H3 H') ⟨upd_same, same_upd hD⟩ (fun i H' _ hp => .of (hp.2 _ _ eL)) (fun i x H' hx hp => ?_) (fun H' hp => ?_)
      · obtain ⟨h1, h2⟩ := hp
        obtain ⟨n, hn, rfl⟩ := map_at hx
        have hi : i < 12 := (List.getElem?_eq_some_iff.mp hn).1
        obtain ⟨o2, hg2, ho2⟩ := (hZ3.same h2).no n
        refine ⟨rfl, ?_⟩
        refine ⟨_, rfl, _, rfl, z, _, rfl, hg2, _, rfl, ?_⟩
        rw [ho2]
        have et : (twelve.take (i + 1)).filter (fun n => !decide (n ∈ ns)) = (twelve.take i).filter (fun n => !decide (n ∈ ns)) ++ [n].filter (fun n => !decide (n ∈ ns)) := by
          rw [take_snoc hn, List.filter_append]
        by_cases e : n ∈ ns
        · rw [decide_eq_true e]
          refine ifF ⟨?_, h2⟩
          rw [et, List.filter_cons_of_neg (by rw [decide_eq_true e]; decide), List.filter_nil, List.append_nil]
          exact h1
        · rw [decide_eq_false e]
          refine ifT ⟨_, rfl, _, h1, ?_, ?_, fun b o eb => ?_⟩
          · rw [List.length_map]
            exact Nat.lt_of_le_of_lt (List.length_filter_le ..) (by rw [List.length_take]; show min i 12 < sizeLine; exact Nat.lt_of_le_of_lt (Nat.min_le_right ..) (by decide))
          · rw [et, List.filter_cons_of_pos (by rw [decide_eq_false e]; rfl), List.map_append]
            exact upd_same
          · rw [upd_ne (ne_of_none eb hD)]
            exact h2 b o eb
      · obtain ⟨h1, h2⟩ := hp
        have hex : ∃ n ∈ twelve, n ∉ ns := by
          refine Classical.byContradiction fun hno => ?_
          have hall : ∀ n ∈ twelve, n ∈ ns := fun n hn => Classical.byContradiction fun e => hno ⟨n, hn, e⟩
          have := (nd_sub nodup12 hall).1
          have h3 : twelve.length = 12 := rfl
          omega
        obtain ⟨n0, hn0, e0⟩ := hex
        have hm0 : n0 ∈ (twelve.take 12).filter fun n => !decide (n ∈ ns) := List.mem_filter.mpr ⟨hn0, by rw [decide_eq_false e0]; rfl⟩
        obtain ⟨n, r, er⟩ : ∃ n r, (twelve.take 12).filter (fun n => !decide (n ∈ ns)) = n :: r := by
          cases e : (twelve.take 12).filter (fun n => !decide (n ∈ ns)) with
          | nil => rw [e] at hm0; cases hm0
          | cons n r => exact ⟨n, r, rfl⟩
        have hnm : n ∈ (twelve.take 12).filter (fun n => !decide (n ∈ ns)) := by rw [er]; exact List.mem_cons_self
        obtain ⟨g1, g2⟩ := List.mem_filter.mp hnm
        have h1 : H' D = some (.lst (((twelve.take 12).filter fun n => !decide (n ∈ ns)).map V.str)) := h1
        rw [er] at h1
        refine ⟨_, _, _, _, rfl, rfl, .of h1, atI_nat (j := 0) rfl, n, _, rfl, wd12 n (List.mem_append_left sixK (show n ∈ twelve from g1)), by simpa using g2, C3.sm h2⟩
    · rintro σ H3 ⟨n, y3, rfl, hn, hnn, C3⟩
      exact ⟨_, rfl, q n H3 hn hnn C3⟩
end
theorem later1 {B : Hp → Prop} {C : Hp → Prop} {G : Prop} (f : (∀ H, C H → B H) → G) (b : ∀ H, C H → B H) : G := f b
theorem eqv_nil6 {ds : List PyData} : PyData.eqv (.list ds) (.list []) = ds.isEmpty := by
  cases ds <;> simp [PyData.eqv, PyData.eqvAll]
theorem svAt_of {ss : List SvE} {b : SvE} (nd : (ss.map (·.name)).Nodup) (hb : b ∈ ss) : svAt ss b.name = some b := by
  unfold svAt
  induction ss with
  | nil => cases hb
  | cons x r ih =>
    rw [List.map_cons, List.nodup_cons] at nd
    rcases List.mem_cons.mp hb with rfl | hb
    · exact List.find?_cons_of_pos (by simp)
    · rw [List.find?_cons_of_neg (by
        have : x.name ≠ b.name := fun e => nd.1 (by rw [e]; exact List.mem_map.mpr ⟨b, hb, rfl⟩)
        simpa using this)]
      exact ih nd.2 hb
theorem wrong_no {ts : List (Str × Int)} {ss : List SvE} {sz : Str → Option SzD} {st : StD} (h1 : namesB sz ss st = true) (h2 : itemsB sz (kOf ss st) st = true) (h3 : (sizeOf sz (wOf ts ss st) st).1 ≤ 12) (h4 : joinB sz st = true) (h5 : (sizeOf sz (wOf ts ss st) st).2.1 ≤ 16) (h6 : (sizeOf sz (wOf ts ss st) st).2.2 ≤ 4) : wrongOf ts ss sz st = none := by
  unfold wrongOf
  rw [if_neg (by rw [h1]; decide), if_neg (by rw [h2]; decide), if_neg (by rw [h4]; rintro (h | h); omega; cases h), if_neg (by omega)]
theorem itw_ok {it : ItD} (h : ItW it) : ItOk it := by
  cases it with
  | val k => exact h
  | idx i => exact h.1
theorem mulS {i j : Int} (h0 : 1 ≤ i) (hi : i ≤ 16) : CMul i j := .inl ⟨by omega, by omega⟩
/-- the services of the law -/
structure SvFix (H : Hp) (sv : Addr) (ts : List (Str × Int)) (ss : List SvE) : Prop where
  d : H sv = some (.dK (svK ss))
  told : ∀ b ∈ ss, Told H b.at_ b.tab b.ga b.cols b.cap
  nd : (ss.map (·.name)).Nodup
  l1 : 1 ≤ ss.length
  l8 : ss.length ≤ 8
  wd : ∀ b ∈ ss, Wd b.name ∧ widthAt ts b.tab = 3 ∧ b.cols.length ≤ 4
theorem SvFix.keep {H H' : Hp} {sv : Addr} {ts : List (Str × Int)} {ss : List SvE} (h : SvFix H sv ts ss) (k : ∀ b xs, H b = some (.tup xs) → H' b = some (.tup xs)) (kd : H' sv = some (.dK (svK ss))) : SvFix H' sv ts ss := ⟨kd, fun b hb => (h.told b hb).mono k, h.nd, h.l1, h.l8, h.wd⟩
section
variable {P : Program} {w : World} {K : PySem.W.Frag} {mg : Str → Option Value} {base : Heap} {a : Nat → Addr} {d : Nat → FuncData}
def spStep6 : Sp := fun vs H Q _ => ∃ (p z sv : Addr) (ns : List Str) (sz : Str → Option SzD) (ts : List (Str × Int)) (ss : List SvE), vs = [.ref p, .ref z, .ref sv] ∧ sv ≠ z ∧ Cell H p ∧ Shp H z ns sz ∧ SzIn sz ∧ ns.length ≤ 11 ∧ SvFix H sv ts ss ∧
  ∀ (t : Addr) (st : StD) (H' : Hp), StAt H' t st → StW st → wrongOf ts ss sz st = none → Shp H' z (ns ++ [st.name]) (putS sz st.name (sizeOf sz (wOf ts ss st) st)) → Cell H' p → (∀ b o, b ≠ p → b ≠ z → H b = some o → H' b = some o) → H t = none → Q (.ref t) H'
theorem ok_lstep6 (T : Txt K mg a d) : FnOk P w K mg base CX0 6 (a 72) (d 72) ["_law_state_here", "_law_shapes", "_law_services"] spStep6 := by
  have G67 : FnOk P w K mg base CX0 1 (a 67) (d 67) ["_law_state_here", "_law_many"] spPick2 := ok_pick2 T
  have G71 : FnOk P w K mg base CX0 4 (a 71) (d 71) ["_law_state_here", "_law_shapes"] spName6 := ok_lname6 T
  have G70 : FnOk P w K mg base CX0 5 (a 70) (d 70) ["_law_state_here", "_law_width"] spItem6 := ok_litem6 T
  refine T.F72.ok sc__law_step (fun vs H Q E h => ?_) (fun cdv A outer s H vs Q E hr h => ?_)
  · obtain ⟨p, z, sv, ns, sz, ts, ss, rfl, _⟩ := h
    rfl
  · obtain ⟨p, z, sv, ns, sz, ts, ss, rfl, nsz, hP, hZ, hI, l11, hV, q⟩ := h
    refine ⟨_, (pss_cons (ps_set (i := 3) sc__law_step.nd rfl (.inl rfl) (pe_call G71 (hr.mono (by decide)) (by rfl) T.g71 T.F71.kp T.b71 .nil pass0 (pa_cons (pv 0) (pa_cons (pv 1) pa_nil))))
  (pss_cons (ps_set (i := 4) sc__law_step.nd rfl (.inl rfl) (pe_callTy (T := "list")  (call_listD rfl) (by rfl) T.z_list (by decide +kernel) (pa_cons (pv 1) pa_nil)))
  (pss_cons (ps_set (i := 5) sc__law_step.nd rfl (.inl rfl) (pe_call G67 (hr.mono (by decide)) (by rfl) T.g67 T.F67.kp T.b67 .nil pass0 (pa_cons (pv 0) (pa_cons pe_int pa_nil))))
  (pss_cons (ps_if (PW.pt (pw_or (pt_cmpR (op_eqD (hu_of64 hr)) (pv 4) (pe_lst pa_nil) (nomark _)) (pw_or1 (pt_cmpR op_eq (pv 5) pe_int (nomark _)))))
    (pss_cons (ps_dput (hu_of hr) (pv 1) (pv 3) (pe_tup (pa_cons pe_int (pa_cons pe_int (pa_cons pe_int pa_nil)))) rfl)
      (pss_one (ps_ret (pe_tup (pa_cons pe_str (pa_cons (pv 3) pa_nil))))))
    pss_nil)
  (pss_cons (ps_set (i := 6) sc__law_step.nd rfl (.inl rfl) (pe_ix ix_list (pv 4) (pe_call G67 (hr.mono (by decide)) (by rfl) T.g67 T.F67.kp T.b67 .nil pass0 (pa_cons (pv 0) (pa_cons (pe_callB (id := "len")  call_len_seq (by rfl) T.z_len (by decide +kernel) (pa_cons (pv 4) pa_nil)) pa_nil))) (fun _ _ => rfl)))
  (pss_cons (ps_set (i := 7) sc__law_step.nd rfl (.inl rfl) (pe_ix ix_list (pv 4) (pe_call G67 (hr.mono (by decide)) (by rfl) T.g67 T.F67.kp T.b67 .nil pass0 (pa_cons (pv 0) (pa_cons (pe_callB (id := "len")  call_len_seq (by rfl) T.z_len (by decide +kernel) (pa_cons (pv 4) pa_nil)) pa_nil))) (fun _ _ => rfl)))
  (pss_cons (ps_asg (pe_dget (hu_of hr) (pv 1) (pv 6) (fun _ _ => rfl)) (pg_tup rfl (pgs_cons (pg_name (i := 8) sc__law_step.nd rfl (.inr rfl)) (pgs_cons (pg_name (i := 9) sc__law_step.nd rfl (.inl rfl)) (pgs_cons (pg_name (i := 10) sc__law_step.nd rfl (.inl rfl)) pgs_nil)))))
  (pss_cons (ps_asg (pe_dget (hu_of hr) (pv 1) (pv 7) (fun _ _ => rfl)) (pg_tup rfl (pgs_cons (pg_name (i := 11) sc__law_step.nd rfl (.inl rfl)) (pgs_cons (pg_name (i := 12) sc__law_step.nd rfl (.inl rfl)) (pgs_cons (pg_name (i := 13) sc__law_step.nd rfl (.inl rfl)) pgs_nil)))))
  (Evl.pss_cut (ps_if (PW.pt (pw_and (pt_cmpR op_eq (pv 5) pe_int (nomark _)) (pw_and (pt_cmpR op_eq (pv 8) (pv 11) (nomark _)) (pw_and1 (pt_cmpR op_le (pe_op op_add (pv 9) (pv 12)) pe_int (nomark _))))))
    (pss_cons (ps_dput (hu_of hr) (pv 1) (pv 3) (pe_tup (pa_cons (pv 8) (pa_cons (pe_op op_add (pv 9) (pv 12)) (pa_cons (pe_callB (id := "max")  (call_max2 rfl) (by rfl) T.z_max (by decide +kernel) (pa_cons (pv 10) (pa_cons (pv 13) pa_nil))) pa_nil)))) rfl)
      (pss_one (ps_ret (pe_tup (pa_cons pe_str (pa_cons (pv 3) (pa_cons (pv 6) (pa_cons (pv 7) pa_nil))))))))
    pss_nil)
  (Evl.pss_cut (ps_if (PW.pt (pw_and (pt_cmpR op_eq (pv 5) pe_int (nomark _)) (pw_and (pt_cmpR op_le (pe_op op_add (pv 8) (pv 11)) pe_int (nomark _)) (pw_and (pt_cmpR op_le (pe_op op_mul (pv 9) (pv 12)) pe_int (nomark _)) (pw_and1 (pt_cmpR op_le (pe_op op_add (pv 10) (pv 13)) pe_int (nomark _)))))))
    (pss_cons (ps_dput (hu_of hr) (pv 1) (pv 3) (pe_tup (pa_cons (pe_op op_add (pv 8) (pv 11)) (pa_cons (pe_op op_mul (pv 9) (pv 12)) (pa_cons (pe_op op_add (pv 10) (pv 13)) pa_nil)))) rfl)
      (pss_one (ps_ret (pe_tup (pa_cons pe_str (pa_cons (pv 3) (pa_cons (pv 6) (pa_cons (pv 7) pa_nil))))))))
    pss_nil)
  (Evl.pss_cut (ps_if (PW.pt (pw_and (pt_cmpR op_eq (pv 5) pe_int (nomark _)) (pw_and1 (pt_cmpR op_gt (pv 8) pe_int (nomark _)))))
    (pss_cons (ps_dput (hu_of hr) (pv 1) (pv 3) (pe_dget (hu_of hr) (pv 1) (pv 6) (fun _ _ => rfl)) rfl)
      (pss_one (ps_ret (pe_tup (pa_cons pe_str (pa_cons (pv 3) (pa_cons (pv 6) (pa_cons (pe_call G67 (hr.mono (by decide)) (by rfl) T.g67 T.F67.kp T.b67 .nil pass0 (pa_cons (pv 0) (pa_cons (pv 8) pa_nil))) (pa_cons (pe_call G70 (hr.mono (by decide)) (by rfl) T.g70 T.F70.kp T.b70 .nil pass0 (pa_cons (pv 0) (pa_cons (pv 8) pa_nil))) pa_nil)))))))))
    pss_nil)
  (Evl.pss_cut (ps_if (PW.pt (pw_and (pt_cmpR op_gt (pv 5) pe_int (nomark _)) (pw_and (pt_cmpR op_lt (pv 10) pe_int (nomark _)) (pw_and1 (pt_cmpR op_le (pv 8) pe_int (nomark _))))))
    (pss_cons (ps_set (i := 14) sc__law_step.nd rfl (.inl rfl) (pe_ix ix_list (pe_callTy (T := "list")  (call_listD rfl) (by rfl) T.z_list (by decide +kernel) (pa_cons (pv 2) pa_nil)) (pe_call G67 (hr.mono (by decide)) (by rfl) T.g67 T.F67.kp T.b67 .nil pass0 (pa_cons (pv 0) (pa_cons (pe_callB (id := "len")  call_lenD (by rfl) T.z_len (by decide +kernel) (pa_cons (pv 2) pa_nil)) pa_nil))) (fun _ _ => rfl)))
      (pss_cons (ps_dput (hu_of hr) (pv 1) (pv 3) (pe_tup (pa_cons (pe_op op_add (pv 8) pe_int) (pa_cons (pv 9) (pa_cons (pe_op op_add (pv 10) pe_int) pa_nil)))) rfl)
      (pss_cons (ps_set (i := 15) sc__law_step.nd rfl (.inl rfl) (pe_callTy (T := "tuple")  call_tuple_of (by rfl) T.z_tuple (by decide +kernel) (pa_cons (pe_lc (own := [("_law_column", 17)]) rfl sc__law_step.nd (pi_tup (pe_ix ix_tup (pe_dget (hu_of hr) (pv 2) (pv 14) (fun _ _ => rfl)) pe_int (fun _ _ => rfl))) (blkOk_by (N := ["_law_state_here", "_law_shapes", "_law_services", "_law_name_here", "_law_names", "_law_kind", "_law_source", "_law_other", "_law_width", "_law_parts", "_law_calls", "_law_far", "_law_more", "_law_extra", "_law_service", "_law_items", "_law_many", "_law_column", "_law_k"]) (sc := defScope s__law_step) (by decide +kernel)) (fun _ _ _ _ _ => pg_name (i := 17) sc__law_step.nd rfl (.inl rfl)) (fun _ _ _ _ _ => pts_nil) (fun _ _ _ _ _ => (pe_call G70 (hr.mono (by decide)) (by rfl) T.g70 T.F70.kp T.b70 .nil pass0 (pa_cons (pv 0) (pa_cons (pv 8) pa_nil))))) pa_nil)))
      (pss_one (ps_ret (pe_tup (pa_cons pe_str (pa_cons (pv 3) (pa_cons (pv 6) (pa_cons (pv 14) (pa_cons (pv 15) pa_nil)))))))))))
    pss_nil)
  (pss_cons (ps_set (i := 16) sc__law_step.nd rfl (.inl rfl) (pe_call G67 (hr.mono (by decide)) (by rfl) T.g67 T.F67.kp T.b67 .nil pass0 (pa_cons (pv 0) (pa_cons pe_int pa_nil))))
  (pss_cons (ps_dput (hu_of hr) (pv 1) (pv 3) (pe_tup (pa_cons (pv 16) (pa_cons (pv 9) (pa_cons (pv 10) pa_nil)))) rfl)
  (pss_one (ps_ret (pe_tup (pa_cons pe_str (pa_cons (pv 3) (pa_cons (pv 6) (pa_cons (pe_callTy (T := "tuple")  call_tuple_of (by rfl) T.z_tuple (by decide +kernel) (pa_cons (pe_lc (own := [("_law_k", 18)]) rfl sc__law_step.nd (pi_range1 (by rfl) T.z_range (pa_cons (pv 16) pa_nil)) (blkOk_by (N := ["_law_state_here", "_law_shapes", "_law_services", "_law_name_here", "_law_names", "_law_kind", "_law_source", "_law_other", "_law_width", "_law_parts", "_law_calls", "_law_far", "_law_more", "_law_extra", "_law_service", "_law_items", "_law_many", "_law_column", "_law_k"]) (sc := defScope s__law_step) (by decide +kernel)) (fun _ _ _ _ _ => pg_name (i := 18) sc__law_step.nd rfl (.inl rfl)) (fun _ _ _ _ _ => pts_nil) (fun _ _ _ _ _ => (pe_call G70 (hr.mono (by decide)) (by rfl) T.g70 T.F70.kp T.b70 .nil pass0 (pa_cons (pv 0) (pa_cons (pv 8) pa_nil))))) pa_nil)) pa_nil))))))))))))))))))))), ?_⟩
    refine ⟨_, rfl, _, rfl, p, z, ns, sz, rfl, hP, hZ, l11, fun nm H1 hw hnn C1 => ?_⟩
    have hZ1 := hZ.chs hP C1
    obtain ⟨kv0, hz0, hk0, _⟩ := id hZ
    have znp : z ≠ p := cell_ne hP hz0 (by intro _ e; cases e)
    obtain ⟨Kp, hKp⟩ : ∃ Kp : Hp → Prop, Kp = fun G => Cell G p ∧ (∃ kvs, G z = some (.dK kvs)) ∧ ∀ b o, b ≠ p → b ≠ z → H b = some o → G b = some o := ⟨_, rfl⟩
    have kC : ∀ {G : Hp}, Chs p H G → Kp G := fun {G} c => by rw [hKp]; exact ⟨c.1, ⟨_, c.at znp hz0⟩, fun b o n _ e => c.2 b o n e⟩
    have kS : ∀ {G G' : Hp}, Kp G → Same G G' → Kp G' := fun {G G'} k s => by
      rw [hKp] at k ⊢
      obtain ⟨k1, ⟨kv, k2⟩, k3⟩ := k
      exact ⟨k1.same s, ⟨kv, s _ _ k2⟩, fun b o n n2 e => s _ _ (k3 b o n n2 e)⟩
    have kCh : ∀ {G G' : Hp}, Kp G → Chs p G G' → Kp G' := fun {G G'} k c => by
      rw [hKp] at k ⊢
      obtain ⟨k1, ⟨kv, k2⟩, k3⟩ := k
      exact ⟨c.1, ⟨kv, c.at znp k2⟩, fun b o n n2 e => c.2 b o n (k3 b o n n2 e)⟩
    have kPt : ∀ {G : Hp} {kv : List (Key × V)}, Kp G → Kp (upd G z (.dK kv)) := fun {G kv} k => by
      rw [hKp] at k ⊢
      obtain ⟨⟨i, j, k1⟩, _, k3⟩ := k
      exact ⟨⟨i, j, by rw [upd_ne znp.symm]; exact k1⟩, ⟨kv, upd_same⟩, fun b o n n2 e => by rw [upd_ne n2]; exact k3 b o n n2 e⟩
    have kF : ∀ {G : Hp} {t : Addr}, Kp G → G t = none → H t = none := fun {G t} k e => by
      rw [hKp] at k
      obtain ⟨⟨i, j, k1⟩, ⟨kv, k2⟩, k3⟩ := k
      cases eH : H t with
      | none => rfl
      | some o =>
        have n1 : t ≠ p := fun h => by rw [h, k1] at e; cases e
        have n2 : t ≠ z := fun h => by rw [h, k2] at e; cases e
        rw [k3 t o n1 n2 eH] at e
        cases e
    have fin : ∀ {t : Addr} {st : StD} {G : Hp}, st.name = nm → StAt G t st → StW st → wrongOf ts ss sz st = none → Shp G z (ns ++ [nm]) (putS sz nm (sizeOf sz (wOf ts ss st) st)) → Kp G → H t = none → Q (.ref t) G := fun {t st G} en h1 h2 h3 h4 k h5 => by
      subst en
      rw [hKp] at k
      exact q t st G h1 h2 h3 h4 k.1 k.2.2 h5
    have hnoS : (sz nm).isSome = false := by
      obtain ⟨_, _, _, _, _, h5⟩ := hZ
      rw [(h5 nm).1 hnn]
      rfl
    obtain ⟨kv1, hz1, hk1, hnd, hnw, _⟩ := id hZ1
    have ekv : kv1.map (fun kv => kV kv.1) = ns.map V.str := by
      have h2 : kv1.map (fun kv => kV kv.1) = (kv1.map (·.1)).map kV := by rw [List.map_map]; rfl
      rw [h2, hk1, List.map_map]
      rfl
    refine ⟨_, rfl, z, _, rfl, .inl hz1, fun L hL => ?_⟩
    rw [ekv]
    have zL := same_upd (o := .lst (ns.map V.str)) hL
    have eL : upd H1 L (.lst (ns.map V.str)) L = some (.lst (ns.map V.str)) := upd_same
    generalize upd H1 L (.lst (ns.map V.str)) = H2 at zL eL ⊢
    have C2 := C1.sm zL
    have nL : L ≠ p := C1.1.ne hL
    have hZ2 := hZ1.same zL
    refine ⟨_, rfl, p, 7, rfl, C2.1, by decide, by decide, fun kd H3 k0 k1 C3' => ?_⟩
    have C3 := C2.trans C3'
    have hZ3 := hZ2.chs C2.1 C3'
    have eL3 := C3'.at nL eL
    clear hZ2 C2 C3' hZ1 hz1 zL eL hL
    have put : ∀ {G : Hp} {u : Addr} {t : SzD}, Kp G → Shp G z ns sz → G u = some (.tup (szV t)) → ∃ kvs, G z = some (.dK kvs) ∧ kvs.length < sizeLine ∧ Shp (upd G z (.dK (putK kvs (.inr nm) (.ref u)))) z (ns ++ [nm]) (putS sz nm t) ∧ Kp (upd G z (.dK (putK kvs (.inr nm) (.ref u)))) := fun {G u t} k h e => by
      obtain ⟨kvs, a1, a2, a3⟩ := h.put hnn hw e
      exact ⟨kvs, a1, Nat.lt_of_le_of_lt (by omega : kvs.length ≤ 11) (by decide), a3, kPt k⟩
    have szo : ∀ {n : Str} {t : SzD}, sz n = some t → szOf sz n = t := fun {n t} e => by
      unfold szOf
      rw [e]
      rfl
    apply later1 (C := fun G => Kp G ∧ Shp G z ns sz)
    case f =>
      intro els
      refine ⟨_, rfl, Nat.zero_le _, fun E1 hE1 => ?_⟩
      have z1 := same_upd (o := .lst []) hE1
      have e1 : upd H3 E1 (.lst []) E1 = some (.lst []) := upd_same
      generalize upd H3 E1 (.lst []) = H4 at z1 e1 ⊢
      have C4 := C3.sm z1
      have hZ4 := hZ3.same z1
      have eL4 := z1 _ _ eL3
      obtain ⟨dpL, shL, _⟩ := strs_dp (K := K) eL4 (fun l hl => wd_low (hnw l hl))
      refine ⟨_, .list [], dpL, .lst (.of e1) .nil, shL, rfl, _, rfl, ?_⟩
      rw [eqv_nil6]
      by_cases hne : ns = []
      · rw [show (ns.map PyData.str).isEmpty = true from by rw [hne]; rfl]
        exact ifT (ifT (els _ ⟨kC C4, hZ4⟩))
      rw [show (ns.map PyData.str).isEmpty = false from by cases ns with | nil => exact absurd rfl hne | cons _ _ => rfl]
      refine ifF ?_
      refine ⟨_, rfl, rfl, _, rfl, ite_eqI (fun _ => els _ ⟨kC C4, hZ4⟩) (fun hk => ?_)⟩
      have hpos : 0 < ns.length := List.length_pos_iff.mpr hne
      have ll : (ns.map V.str).length = ns.length := List.length_map ..
      refine ⟨_, rfl, _, rfl, _, rfl, L, _, rfl, .inl (.of eL4), p, (((ns.map V.str).length : Nat) : Int), rfl, C4.1, by rw [ll]; omega, by rw [ll, Int.natAbs_natCast]; exact Nat.lt_of_le_of_lt l11 (by decide), fun r H5 r0 r1 C5' => ?_⟩
      have C5 := C4.trans C5'
      have eL5 := C5'.at nL eL4
      have hZ5 := hZ4.chs C4.1 C5'
      obtain ⟨v, hv⟩ := at_some (xs := ns.map V.str) r0 r1
      obtain ⟨src, hsrc, rfl⟩ := List.mem_map.mp (atI_mem hv)
      refine ⟨_, _, _, _, rfl, rfl, .of eL5, hv, ?_⟩
      refine ⟨_, rfl, _, rfl, _, rfl, L, _, rfl, .inl (.of eL5), p, (((ns.map V.str).length : Nat) : Int), rfl, C5.1, by rw [ll]; omega, by rw [ll, Int.natAbs_natCast]; exact Nat.lt_of_le_of_lt l11 (by decide), fun r2 H6 r20 r21 C6' => ?_⟩
      have C6 := C5.trans C6'
      have eL6 := C6'.at nL eL5
      have hZ6 := hZ5.chs C5.1 C6'
      obtain ⟨v2, hv2⟩ := at_some (xs := ns.map V.str) r20 r21
      obtain ⟨oth, hoth, rfl⟩ := List.mem_map.mp (atI_mem hv2)
      refine ⟨_, _, _, _, rfl, rfl, .of eL6, hv2, ?_⟩
      obtain ⟨t1, b1, et1, g1, hb1⟩ := hZ6.get hsrc
      obtain ⟨t2, b2, et2, g2, hb2⟩ := hZ6.get hoth
      refine ⟨_, rfl, _, rfl, z, _, rfl, g1, b1, _, rfl, .of hb1, rfl, _, _, rfl, _, _, rfl, _, _, rfl, rfl, ?_⟩
      refine ⟨_, rfl, _, rfl, z, _, rfl, g2, b2, _, rfl, .of hb2, rfl, _, _, rfl, _, _, rfl, _, _, rfl, rfl, ?_⟩
      dsimp only
      generalize hs9 : List.set _ 13 _ = s9
      have hh9 : s9 = [some (.ref p), some (.ref z), some (.ref sv), some (.str nm), some (.ref L), some (.int kd), some (.str src), some (.str oth), some (.int t1.1), some (.int t1.2.1), some (.int t1.2.2), some (.int t2.1), some (.int t2.2.1), some (.int t2.2.2), none, none, none, none, none] := (by rw [← hs9]; rfl)
      clear hs9
      subst hh9
      have k6 := kC C6
      obtain ⟨w10, w11, w12_, w13, w14, w15⟩ := hI src t1 et1
      obtain ⟨v10, v11, v12, v13, v14, v15⟩ := hI oth t2 et2
      have wsrc := hnw src hsrc
      have woth := hnw oth hoth
      have ssrc : (sz src).isSome = true := by rw [et1]; rfl
      have soth : (sz oth).isSome = true := by rw [et2]; rfl
      obtain ⟨S, hS⟩ : ∃ S : L2.St, S = [some (.ref p), some (.ref z), some (.ref sv), some (.str nm), some (.ref L), some (.int kd), some (.str src), some (.str oth), some (.int t1.1), some (.int t1.2.1), some (.int t1.2.2), some (.int t2.1), some (.int t2.2.1), some (.int t2.2.2), none, none, none, none, none] := ⟨_, rfl⟩
      clear hk0 hk1 ekv hZ3 hZ4 hZ5 eL3 eL4 eL5 eL6 dpL shL g2 hb2 hv hv2 C3 C4 C5 C5' C6' hk
      -- both
      refine ⟨fun σ G => σ = S ∧ G = H6, ?_, ?_⟩
      · refine ⟨_, rfl, rfl, _, rfl, ite_eqI (fun _ => ?_) (fun _ => ⟨hS.symm, rfl⟩)⟩
        refine ⟨_, rfl, _, rfl, rfl, _, rfl, ite_eqI (fun hwd => ?_) (fun _ => ⟨hS.symm, rfl⟩)⟩
        refine ⟨_, rfl, _, rfl, _, _, rfl, rfl, _, _, rfl, rfl, _, rfl, ite_d (fun hpt => ?_) (fun _ => ⟨hS.symm, rfl⟩)⟩
        have hpt : t1.2.1 + t2.2.1 ≤ 16 := hpt
        refine ⟨_, rfl, _, rfl, _, rfl, _, _, rfl, rfl, _, rfl, _, rfl, _, _, rfl, by show 3 ≤ sizeLine; decide, fun u hu => ?_⟩
        have zu := same_upd (o := .tup [.int t1.1, .int (t1.2.1 + t2.2.1), .int (if t2.2.2 > t1.2.2 then t2.2.2 else t1.2.2)]) hu
        have eu : upd H6 u (.tup [.int t1.1, .int (t1.2.1 + t2.2.1), .int (if t2.2.2 > t1.2.2 then t2.2.2 else t1.2.2)]) u = some (.tup (szV (t1.1, t1.2.1 + t2.2.1, mx t1.2.2 t2.2.2))) := upd_same
        have kG := kS k6 zu
        have hZG := hZ6.same zu
        generalize upd H6 u (.tup [.int t1.1, .int (t1.2.1 + t2.2.1), .int (if t2.2.2 > t1.2.2 then t2.2.2 else t1.2.2)]) = G1 at kG hZG eu zu ⊢
        obtain ⟨kvs, a1, a2, a3, a4⟩ := put kG hZG eu
        refine ⟨_, rfl, _, rfl, z, _, rfl, DPut.k (k := Sum.inr nm) a1 a2, ?_⟩
        generalize upd G1 z (.dK (putK kvs (.inr nm) (.ref u))) = G2 at a3 a4 ⊢
        have hns : ∀ s ∈ ([nm, src, oth] : List Str), Wd s := fun s hs => by
          simp only [List.mem_cons, List.not_mem_nil, or_false] at hs
          rcases hs with rfl | rfl | rfl <;> assumption
        have esz : sizeOf sz (wOf ts ss (.join true nm src oth)) (.join true nm src oth) = (t1.1, t1.2.1 + t2.2.1, mx t1.2.2 t2.2.2) := by
          show ((szOf sz src).1, (szOf sz src).2.1 + (szOf sz oth).2.1, mx (szOf sz src).2.2 (szOf sz oth).2.2) = _
          rw [szo et1, szo et2]
        refine ⟨_, rfl, _, rfl, _, rfl, by show 4 ≤ sizeLine; decide, fun t ht => ?_⟩
        have zt := same_upd (o := .tup [.str "both", .str nm, .str src, .str oth]) ht
        refine fin (st := .join true nm src oth) rfl upd_same ⟨⟨hns, (fun it h => nomatch h), Nat.zero_le _⟩, (fun it h => nomatch h), Nat.zero_le _⟩ (wrong_no ?_ rfl (by rw [esz]; exact w13) ?_ (by rw [esz]; exact hpt) (by rw [esz]; show mx t1.2.2 t2.2.2 ≤ 4; unfold mx; split <;> omega)) (by rw [esz]; exact a3.same zt) (kS a4 zt) (kF a4 ht)
        · show (!(sz nm).isSome && ((sz src).isSome && ((sz oth).isSome && true)) && true) = true
          rw [hnoS, ssrc, soth]
          rfl
        · show decide (((sz src).getD (0, 0, 0)).1 = ((sz oth).getD (0, 0, 0)).1) = true
          rw [et1, et2]
          exact decide_eq_true hwd
      intro σ G ⟨q1, q2⟩
      rw [q1, hS, q2]
      clear q1 q2
      -- pair
      refine ⟨fun σ G => σ = S ∧ G = H6, ?_, ?_⟩
      · refine ⟨_, rfl, rfl, _, rfl, ite_eqI (fun _ => ?_) (fun _ => ⟨hS.symm, rfl⟩)⟩
        refine ⟨_, rfl, _, rfl, _, _, rfl, rfl, _, _, rfl, rfl, _, rfl, ite_d (fun c1 => ?_) (fun _ => ⟨hS.symm, rfl⟩)⟩
        refine ⟨_, rfl, _, rfl, _, _, rfl, rfl, mulS w11 w14, _, _, rfl, rfl, _, rfl, ite_d (fun c2 => ?_) (fun _ => ⟨hS.symm, rfl⟩)⟩
        refine ⟨_, rfl, _, rfl, _, _, rfl, rfl, _, _, rfl, rfl, _, rfl, ite_d (fun c3 => ?_) (fun _ => ⟨hS.symm, rfl⟩)⟩
        have c1 : t1.1 + t2.1 ≤ 12 := c1
        have c2 : t1.2.1 * t2.2.1 ≤ 16 := c2
        have c3 : t1.2.2 + t2.2.2 ≤ 4 := c3
        refine ⟨_, rfl, _, rfl, _, _, rfl, rfl, _, rfl, _, rfl, _, _, rfl, rfl, mulS w11 w14, _, rfl, _, rfl, _, _, rfl, rfl, by show 3 ≤ sizeLine; decide, fun u hu => ?_⟩
        have zu := same_upd (o := .tup [.int (t1.1 + t2.1), .int (t1.2.1 * t2.2.1), .int (t1.2.2 + t2.2.2)]) hu
        have eu : upd H6 u (.tup [.int (t1.1 + t2.1), .int (t1.2.1 * t2.2.1), .int (t1.2.2 + t2.2.2)]) u = some (.tup (szV (t1.1 + t2.1, t1.2.1 * t2.2.1, t1.2.2 + t2.2.2))) := upd_same
        have kG := kS k6 zu
        have hZG := hZ6.same zu
        generalize upd H6 u (.tup [.int (t1.1 + t2.1), .int (t1.2.1 * t2.2.1), .int (t1.2.2 + t2.2.2)]) = G1 at kG hZG eu zu ⊢
        obtain ⟨kvs, a1, a2, a3, a4⟩ := put kG hZG eu
        refine ⟨_, rfl, _, rfl, z, _, rfl, DPut.k (k := Sum.inr nm) a1 a2, ?_⟩
        generalize upd G1 z (.dK (putK kvs (.inr nm) (.ref u))) = G2 at a3 a4 ⊢
        have hns : ∀ s ∈ ([nm, src, oth] : List Str), Wd s := fun s hs => by
          simp only [List.mem_cons, List.not_mem_nil, or_false] at hs
          rcases hs with rfl | rfl | rfl <;> assumption
        have esz : sizeOf sz (wOf ts ss (.join false nm src oth)) (.join false nm src oth) = (t1.1 + t2.1, t1.2.1 * t2.2.1, t1.2.2 + t2.2.2) := by
          show ((szOf sz src).1 + (szOf sz oth).1, (szOf sz src).2.1 * (szOf sz oth).2.1, (szOf sz src).2.2 + (szOf sz oth).2.2) = _
          rw [szo et1, szo et2]
        refine ⟨_, rfl, _, rfl, _, rfl, by show 4 ≤ sizeLine; decide, fun t ht => ?_⟩
        have zt := same_upd (o := .tup [.str "pair", .str nm, .str src, .str oth]) ht
        refine fin (st := .join false nm src oth) rfl upd_same ⟨⟨hns, (fun it h => nomatch h), Nat.zero_le _⟩, (fun it h => nomatch h), Nat.zero_le _⟩ (wrong_no ?_ rfl (by rw [esz]; exact c1) rfl (by rw [esz]; exact c2) (by rw [esz]; exact c3)) (by rw [esz]; exact a3.same zt) (kS a4 zt) (kF a4 ht)
        show (!(sz nm).isSome && ((sz src).isSome && ((sz oth).isSome && true)) && true) = true
        rw [hnoS, ssrc, soth]
        rfl
      intro σ G ⟨q1, q2⟩
      rw [q1, hS, q2]
      clear q1 q2
      -- where
      refine ⟨fun σ G => σ = S ∧ G = H6, ?_, ?_⟩
      · refine ⟨_, rfl, rfl, _, rfl, ite_eqI (fun _ => ?_) (fun _ => ⟨hS.symm, rfl⟩)⟩
        refine ⟨_, rfl, _, _, rfl, rfl, _, rfl, ite_d (fun c1 => ?_) (fun _ => ⟨hS.symm, rfl⟩)⟩
        have c1 : 0 < t1.1 := c1
        obtain ⟨kvs, a1, a2, a3, a4⟩ := put k6 hZ6 hb1
        refine ⟨_, rfl, _, rfl, z, _, rfl, g1, _, rfl, _, rfl, z, _, rfl, DPut.k (k := Sum.inr nm) a1 a2, ?_⟩
        have hPz : Cell (upd H6 z (.dK (putK kvs (.inr nm) (.ref b1)))) p := by rw [hKp] at a4; exact a4.1
        generalize upd H6 z (.dK (putK kvs (.inr nm) (.ref b1))) = G2 at a3 a4 hPz ⊢
        refine ⟨_, rfl, _, rfl, _, rfl, _, rfl, p, t1.1, rfl, hPz, c1, Nat.lt_of_le_of_lt (by omega : t1.1.natAbs ≤ 12) (by decide), fun ix G3 i0 i1 C7 => ?_⟩
        refine ⟨_, rfl, _, rfl, p, t1.1, rfl, C7.1, w10, w13, fun v it G4 hv hit hin C8 => ⟨by show 5 ≤ sizeLine; decide, fun t ht => ?_⟩⟩
        have zt := same_upd (o := .tup [.str "where", .str nm, .str src, .int ix, v]) ht
        have esz : sizeOf sz (wOf ts ss (.whr nm src ix it)) (.whr nm src ix it) = t1 := by
          show szOf sz src = _
          rw [szo et1]
        have a7 := kCh (kCh a4 C7) C8
        have h12 : ix < 10 ^ 30 := by omega
        have hitm : ∀ x ∈ [ItD.idx ix, it], ItW x := fun x hx => by
          simp only [List.mem_cons, List.not_mem_nil, or_false] at hx
          rcases hx with rfl | rfl
          · exact ⟨i0, h12⟩
          · exact hit
        have hns : ∀ s ∈ ([nm, src] : List Str), Wd s := fun s hs => by
          simp only [List.mem_cons, List.not_mem_nil, or_false] at hs
          rcases hs with rfl | rfl <;> assumption
        refine fin (st := .whr nm src ix it) rfl ⟨v, upd_same, hv.keeps fun _ _ e => zt _ _ e⟩ ⟨⟨hns, fun x hx => itw_ok (hitm x hx), by show 2 ≤ 100; decide⟩, hitm, by show 2 ≤ 10; decide⟩ (wrong_no ?_ ?_ (by rw [esz]; exact w13) rfl (by rw [esz]; exact w14) (by rw [esz]; exact w15)) (by rw [esz]; exact ((a3.chs hPz C7).chs C7.1 C8).same zt) (kS a7 zt) (kF a7 ht)
        · show (!(sz nm).isSome && ((sz src).isSome && true) && true) = true
          rw [hnoS, ssrc]
          rfl
        · show (true && (itIn ((sz src).getD (0, 0, 0)).1 (.idx ix) && (itIn ((sz src).getD (0, 0, 0)).1 it && true))) = true
          rw [et1]
          show (true && (decide (ix < t1.1) && (itIn t1.1 it && true))) = true
          rw [hin, decide_eq_true i1]
          rfl
      intro σ G ⟨q1, q2⟩
      rw [q1, hS, q2]
      clear q1 q2
      have hV6 : SvFix H6 sv ts ss := hV.keep (fun b xs e => C6.at (cell_ne hP e (by intro _ z; cases z)) e) (C6.at (cell_ne hP hV.d (by intro _ z; cases z)) hV.d)
      -- call
      refine ⟨fun σ G => σ = S ∧ G = H6, ?_, ?_⟩
      · refine ⟨_, rfl, _, _, rfl, rfl, _, rfl, ite_d (fun _ => ?_) (fun _ => ⟨hS.symm, rfl⟩)⟩
        refine ⟨_, rfl, _, _, rfl, rfl, _, rfl, ite_d (fun c1 => ?_) (fun _ => ⟨hS.symm, rfl⟩)⟩
        refine ⟨_, rfl, _, _, rfl, rfl, _, rfl, ite_d (fun c2 => ?_) (fun _ => ⟨hS.symm, rfl⟩)⟩
        have c1 : t1.2.2 < 4 := c1
        have c2 : t1.1 ≤ 9 := c2
        have esv : (svK ss).map (fun kv => kV kv.1) = (ss.map (·.name)).map V.str := by
          have h2 : (svK ss).map (fun kv => kV kv.1) = ((svK ss).map (·.1)).map kV := by rw [List.map_map]; rfl
          rw [h2, keys_sv, List.map_map]
          rfl
        have lsv : (svK ss).length = ss.length := by unfold svK; rw [List.length_map]
        have lsn : ((ss.map (·.name)).map V.str).length = ss.length := by rw [List.length_map, List.length_map]
        have hs1 := hV.l1
        have hs8 := hV.l8
        refine ⟨_, rfl, sv, _, rfl, .inl hV6.d, fun L2 hL2 => ?_⟩
        rw [esv]
        have zL := same_upd (o := .lst ((ss.map (·.name)).map V.str)) hL2
        have eL : upd H6 L2 (.lst ((ss.map (·.name)).map V.str)) L2 = some (.lst ((ss.map (·.name)).map V.str)) := upd_same
        generalize upd H6 L2 (.lst ((ss.map (·.name)).map V.str)) = H7 at zL eL ⊢
        have C7 := C6.sm zL
        have nL2 : L2 ≠ p := C6.1.ne hL2
        have hZ7 := hZ6.same zL
        have hV7 : SvFix H7 sv ts ss := hV6.keep (fun b xs e => zL _ _ e) (zL _ _ hV6.d)
        refine ⟨_, rfl, _, rfl, sv, _, rfl, hV7.d, p, (((svK ss).length : Nat) : Int), rfl, C7.1, by omega, by rw [lsv, Int.natAbs_natCast]; exact Nat.lt_of_le_of_lt hs8 (by decide), fun r H8 r0 r1 C8' => ?_⟩
        have C8 := C7.trans C8'
        have hZ8 := hZ7.chs C7.1 C8'
        have hV8 : SvFix H8 sv ts ss := hV7.keep (fun b xs e => C8'.at (cell_ne C7.1 e (by intro _ z; cases z)) e) (C8'.at (cell_ne C7.1 hV7.d (by intro _ z; cases z)) hV7.d)
        obtain ⟨v, hv⟩ := at_some (xs := (ss.map (·.name)).map V.str) r0 (by rw [lsn]; rw [lsv] at r1; exact r1)
        obtain ⟨sn, hsn, rfl⟩ := List.mem_map.mp (atI_mem hv)
        obtain ⟨b, hb, rfl⟩ := List.mem_map.mp hsn
        refine ⟨_, _, _, _, rfl, rfl, .of (C8'.at nL2 eL), hv, ?_⟩
        refine ⟨_, rfl, _, _, rfl, rfl, _, rfl, _, rfl, _, _, rfl, rfl, by show 3 ≤ sizeLine; decide, fun u hu => ?_⟩
        have k8 := kC C8
        have zu := same_upd (o := .tup [.int (t1.1 + 3), .int t1.2.1, .int (t1.2.2 + 1)]) hu
        have eu : upd H8 u (.tup [.int (t1.1 + 3), .int t1.2.1, .int (t1.2.2 + 1)]) u = some (.tup (szV (t1.1 + 3, t1.2.1, t1.2.2 + 1))) := upd_same
        have kG := kS k8 zu
        have hZG := hZ8.same zu
        have hV9 : SvFix (upd H8 u (.tup [.int (t1.1 + 3), .int t1.2.1, .int (t1.2.2 + 1)])) sv ts ss := hV8.keep (fun b xs e => zu _ _ e) (zu _ _ hV8.d)
        generalize upd H8 u (.tup [.int (t1.1 + 3), .int t1.2.1, .int (t1.2.2 + 1)]) = G1 at kG hZG eu zu hV9 ⊢
        obtain ⟨kvs, a1, a2, a3, a4⟩ := put kG hZG eu
        refine ⟨_, rfl, _, rfl, z, _, rfl, DPut.k (k := Sum.inr nm) a1 a2, ?_⟩
        have hV10 : SvFix (upd G1 z (.dK (putK kvs (.inr nm) (.ref u)))) sv ts ss := hV9.keep (fun b xs e => by rw [upd_ne (fun z' => by rw [z', a1] at e; cases e)]; exact e) (by rw [upd_ne nsz]; exact hV9.d)
        have hPz : Cell (upd G1 z (.dK (putK kvs (.inr nm) (.ref u)))) p := by rw [hKp] at a4; exact a4.1
        generalize upd G1 z (.dK (putK kvs (.inr nm) (.ref u))) = G2 at a3 a4 hV10 hPz ⊢
        have htold := hV10.told b hb
        have hwb := hV.wd b hb
        have hget : DGet G2 sv (.str b.name) (some (.ref b.at_)) := by
          have h := DGet.k (k := Sum.inr b.name) hV10.d
          rw [svAt_val, svAt_of hV.nd hb] at h
          exact h
        refine ⟨_, rfl, _, rfl, sv, _, rfl, hget, _, _, _, _, rfl, rfl, .of htold.tup, atI_nat (j := 1) rfl, b.ga, rfl, ⟨_, .of htold.cols⟩, fun D hD => ?_⟩
        have nD : D ≠ p := hPz.ne hD
        have lcl : (b.cols.map V.int).length = b.cols.length := List.length_map ..
        refine lc_tup (K := K) (a := b.ga) (xs := b.cols.map V.int) (fun j G => ∃ (vs : List V) (its : List ItD), G D = some (.lst vs) ∧ vs.length = j ∧ ItsAt G vs its ∧ (∀ it ∈ its, ItW it ∧ itIn t1.1 it = true) ∧ Chs p G2 G) ⟨[], [], upd_same, rfl, .nil, (fun it h => nomatch h), (Chs.refl hPz).mut hD nD⟩ (fun j G _ hp5 => ?_) (fun j x G hx hp5 => ?_) (fun G hp5 => ?_)
        · obtain ⟨_, _, _, _, _, _, c⟩ := hp5
          exact .of (c.at (cell_ne hPz htold.cols (by intro _ z; cases z)) htold.cols)
        · obtain ⟨vs, its, x1, x2, x3, x4, x5⟩ := hp5
          have lj : j < (b.cols.map V.int).length := (List.getElem?_eq_some_iff.mp hx).1
          refine ⟨rfl, _, rfl, _, rfl, p, t1.1, rfl, x5.1, w10, w13, fun v it G4 hv4 hit hin C9 => ?_⟩
          have kt : ∀ b' us, G4 b' = some (.tup us) → upd G4 D (.lst (vs ++ [v])) b' = some (.tup us) := fun b' us e => by
            rw [upd_ne (fun z' => by rw [z', C9.at nD x1] at e; cases e)]
            exact e
          refine ⟨_, C9.at nD x1, small1000 (by omega), vs ++ [v], its ++ [it], upd_same, by rw [List.length_append, x2]; rfl, paired_app (ItsAt.keeps (ItsAt.keeps x3 fun b' us e => C9.at (cell_ne x5.1 e (by intro _ z; cases z)) e) kt) (.cons (hv4.keeps kt) .nil), fun y hy => ?_, (x5.trans C9).mut hD nD⟩
          rcases List.mem_append.mp hy with hy | hy
          · exact x4 y hy
          · rw [List.mem_singleton.mp hy]
            exact ⟨hit, hin⟩
        · obtain ⟨vs, its, x1, x2, x3, x4, x5⟩ := hp5
          have lits := Paired.length x3
          have hwb3 := hwb.2.2
          refine ⟨D, _, rfl, .inl ⟨.of x1, fun g hg => ?_⟩⟩
          have zg := same_upd (o := .tup vs) hg
          have eg : upd G g (.tup vs) g = some (.tup vs) := upd_same
          refine ⟨_, rfl, _, rfl, _, rfl, _, rfl, by show 5 ≤ sizeLine; decide, fun t ht => ?_⟩
          have zt := same_upd (o := .tup [.str "call", .str nm, .str src, .str b.name, .ref g]) ht
          have k10 := kS (kCh a4 x5) zg
          have ewt : wOf ts ss (.call nm src b.name its) = 3 := by
            show ((svAt ss b.name).map fun b => widthAt ts b.tab).getD 0 = 3
            rw [svAt_of hV.nd hb]
            exact hwb.2.1
          have ekt : kOf ss (.call nm src b.name its) = b.cols.length := by
            show ((svAt ss b.name).map fun b => b.cols.length).getD 0 = _
            rw [svAt_of hV.nd hb]
            rfl
          have esz : sizeOf sz (wOf ts ss (.call nm src b.name its)) (.call nm src b.name its) = (t1.1 + 3, t1.2.1, t1.2.2 + 1) := by
            rw [ewt]
            show ((szOf sz src).1 + 3, (szOf sz src).2.1, (szOf sz src).2.2 + 1) = _
            rw [szo et1]
          have hwsn := hwb.1
          have hns : ∀ s ∈ ([nm, src, b.name] : List Str), Wd s := fun s hs => by
            simp only [List.mem_cons, List.not_mem_nil, or_false] at hs
            rcases hs with rfl | rfl | rfl <;> assumption
          refine fin (st := .call nm src b.name its) rfl ⟨g, vs, upd_same, zt _ _ eg, ItsAt.keeps x3 fun _ _ e => zt _ _ (zg _ _ e)⟩ ⟨⟨hns, fun x hx => itw_ok (x4 x hx).1, by show its.length ≤ 100; omega⟩, fun x hx => (x4 x hx).1, by show its.length ≤ 10; omega⟩ (wrong_no ?_ ?_ (by rw [esz]; show t1.1 + 3 ≤ 12; omega) rfl (by rw [esz]; exact w14) (by rw [esz]; show t1.2.2 + 1 ≤ 4; omega)) (by rw [esz]; exact ((a3.chs hPz x5).same zg).same zt) (kS k10 zt) (kF k10 ht)
          · show (!(sz nm).isSome && ((sz src).isSome && true) && (ss.map (·.name)).any fun x => decide (x = b.name)) = true
            rw [hnoS, ssrc, List.any_eq_true.mpr ⟨b.name, List.mem_map.mpr ⟨b, hb, rfl⟩, decide_eq_true rfl⟩]
            rfl
          · rw [ekt]
            show (decide (its.length = b.cols.length) && its.all (itIn ((sz src).getD (0, 0, 0)).1)) = true
            rw [et1, decide_eq_true (by omega), Bool.true_and]
            exact List.all_eq_true.mpr fun x hx => (x4 x hx).2
      intro σ G ⟨q1, q2⟩
      rw [q1, hS, q2]
      clear q1 q2
      -- take
      refine ⟨_, rfl, p, 5, rfl, C6.1, by decide, by decide, fun m H7 m0 m1 C7' => ?_⟩
      have C7 := C6.trans C7'
      have k7 := kC C7
      have hZ7 := hZ6.chs C6.1 C7'
      refine ⟨_, rfl, _, rfl, _, rfl, by show 3 ≤ sizeLine; decide, fun u hu => ?_⟩
      have zu := same_upd (o := .tup [.int m, .int t1.2.1, .int t1.2.2]) hu
      have eu : upd H7 u (.tup [.int m, .int t1.2.1, .int t1.2.2]) u = some (.tup (szV (m, t1.2.1, t1.2.2))) := upd_same
      have kG := kS k7 zu
      have hZG := hZ7.same zu
      generalize upd H7 u (.tup [.int m, .int t1.2.1, .int t1.2.2]) = G1 at kG hZG eu zu ⊢
      obtain ⟨kvs, a1, a2, a3, a4⟩ := put kG hZG eu
      refine ⟨_, rfl, _, rfl, z, _, rfl, DPut.k (k := Sum.inr nm) a1 a2, ?_⟩
      have hPz : Cell (upd G1 z (.dK (putK kvs (.inr nm) (.ref u)))) p := by rw [hKp] at a4; exact a4.1
      generalize upd G1 z (.dK (putK kvs (.inr nm) (.ref u))) = G2 at a3 a4 hPz ⊢
      refine ⟨_, rfl, _, rfl, _, rfl, _, rfl, by omega, by omega, fun D hD => ?_⟩
      have nD : D ≠ p := hPz.ne hD
      refine lc_range (lo := 0) (n := m.toNat) (fun j G => ∃ (vs : List V) (its : List ItD), G D = some (.lst vs) ∧ vs.length = j ∧ ItsAt G vs its ∧ (∀ it ∈ its, ItW it ∧ itIn t1.1 it = true) ∧ Chs p G2 G) ⟨[], [], upd_same, rfl, .nil, (fun it h => nomatch h), (Chs.refl hPz).mut hD nD⟩ (fun j G hj hp5 => ?_) (fun G hp5 => ?_)
      · obtain ⟨vs, its, x1, x2, x3, x4, x5⟩ := hp5
        refine ⟨rfl, _, rfl, _, rfl, p, t1.1, rfl, x5.1, w10, w13, fun v it G4 hv4 hit hin C9 => ?_⟩
        have kt : ∀ b' us, G4 b' = some (.tup us) → upd G4 D (.lst (vs ++ [v])) b' = some (.tup us) := fun b' us e => by
          rw [upd_ne (fun z' => by rw [z', C9.at nD x1] at e; cases e)]
          exact e
        refine ⟨_, C9.at nD x1, small1000 (by omega), vs ++ [v], its ++ [it], upd_same, by rw [List.length_append, x2]; rfl, paired_app (ItsAt.keeps (ItsAt.keeps x3 fun b' us e => C9.at (cell_ne x5.1 e (by intro _ z; cases z)) e) kt) (.cons (hv4.keeps kt) .nil), fun y hy => ?_, (x5.trans C9).mut hD nD⟩
        rcases List.mem_append.mp hy with hy | hy
        · exact x4 y hy
        · rw [List.mem_singleton.mp hy]
          exact ⟨hit, hin⟩
      · obtain ⟨vs, its, x1, x2, x3, x4, x5⟩ := hp5
        have lits := Paired.length x3
        refine ⟨D, _, rfl, .inl ⟨.of x1, fun g hg => ?_⟩⟩
        have zg := same_upd (o := .tup vs) hg
        have eg : upd G g (.tup vs) g = some (.tup vs) := upd_same
        refine ⟨by show 4 ≤ sizeLine; decide, fun t ht => ?_⟩
        have zt := same_upd (o := .tup [.str "take", .str nm, .str src, .ref g]) ht
        have k10 := kS (kCh a4 x5) zg
        have esz : sizeOf sz (wOf ts ss (.take nm src its)) (.take nm src its) = (m, t1.2.1, t1.2.2) := by
          show ((its.length : Int), (szOf sz src).2.1, (szOf sz src).2.2) = _
          rw [szo et1, show ((its.length : Nat) : Int) = m by omega]
        have hns : ∀ s ∈ ([nm, src] : List Str), Wd s := fun s hs => by
          simp only [List.mem_cons, List.not_mem_nil, or_false] at hs
          rcases hs with rfl | rfl <;> assumption
        refine fin (st := .take nm src its) rfl ⟨g, vs, upd_same, zt _ _ eg, ItsAt.keeps x3 fun _ _ e => zt _ _ (zg _ _ e)⟩ ⟨⟨hns, fun x hx => itw_ok (x4 x hx).1, by show its.length ≤ 100; omega⟩, fun x hx => (x4 x hx).1, by show its.length ≤ 10; omega⟩ (wrong_no ?_ ?_ (by rw [esz]; show m ≤ 12; omega) rfl (by rw [esz]; exact w14) (by rw [esz]; exact w15)) (by rw [esz]; exact ((a3.chs hPz x5).same zg).same zt) (kS k10 zt) (kF k10 ht)
        · show (!(sz nm).isSome && ((sz src).isSome && true) && true) = true
          rw [hnoS, ssrc]
          rfl
        · show (true && its.all (itIn ((sz src).getD (0, 0, 0)).1)) = true
          rw [et1, Bool.true_and]
          exact List.all_eq_true.mpr fun x hx => (x4 x hx).2
    case b =>
      rintro G ⟨kG, hZG⟩
      refine ⟨by show 3 ≤ sizeLine; decide, fun u hu => ?_⟩
      have zu := same_upd (o := .tup [.int 0, .int 1, .int 0]) hu
      have eu : upd G u (.tup [.int 0, .int 1, .int 0]) u = some (.tup (szV (0, 1, 0))) := upd_same
      have kG := kS kG zu
      have hZG := hZG.same zu
      generalize upd G u (.tup [.int 0, .int 1, .int 0]) = G1 at kG hZG eu ⊢
      obtain ⟨kvs, a1, a2, a3, a4⟩ := put kG hZG eu
      refine ⟨_, rfl, _, rfl, z, _, rfl, DPut.k (k := Sum.inr nm) a1 a2, ?_⟩
      refine ⟨_, rfl, by show 2 ≤ sizeLine; decide, fun t ht => ?_⟩
      have zt := same_upd (o := .tup [.str "start", .str nm]) ht
      refine fin (st := .start nm) rfl upd_same ⟨⟨fun s hs => ?_, (fun it h => nomatch h), Nat.zero_le _⟩, (fun it h => nomatch h), Nat.zero_le _⟩ (wrong_no ?_ rfl (by show (0 : Int) ≤ 12; decide) rfl (by show (1 : Int) ≤ 16; decide) (by show (0 : Int) ≤ 4; decide)) (a3.same zt) (kS a4 zt) (kF a4 ht)
      · have hs : s ∈ [nm] := hs
        rw [List.mem_singleton.mp hs]
        exact hw
      · show (!(sz nm).isSome && ([] : List Str).all _ && true) = true
        rw [hnoS]
        rfl
end
section
variable {P : Program} {w : World} {K : PySem.W.Frag} {mg : Str → Option Value} {base : Heap} {a : Nat → Addr} {d : Nat → FuncData}
theorem ok_liw6 (T : Txt K mg a d) : FnOk P w K mg base CX0 1 (a 73) (d 73) ["_law_item_here"] spIW := by
  refine T.F73.ok sc__law_item_word (fun vs H Q E h => ?_) (fun cdv A outer s H vs Q E hr h => ?_)
  · obtain ⟨v, it, rfl, _⟩ := h
    rfl
  · obtain ⟨v, it, rfl, hv, hw, q⟩ := h
    refine ⟨_, (pss_one (ps_ret (pe_ifExp (pt_val (pe_callB (id := "isinstance")  call_isi (by rfl) T.z_isinstance (by decide +kernel) (pa_cons (pv 0) (pa_cons (pe_bltn (v := .ty "tuple") (by rfl) T.z_tuple (by decide +kernel) rfl) pa_nil)))) (pe_op op_add_str pe_str (pe_callTy (T := "str")  (call_orC SkE.call_str_str call_str_int) (by rfl) T.z_str (by decide +kernel) (pa_cons (pe_ix ix_tup (pv 0) pe_int (fun _ _ => rfl)) pa_nil))) (pe_op op_add_str pe_str (pe_callTy (T := "str")  (call_orC SkE.call_str_str call_str_int) (by rfl) T.z_str (by decide +kernel) (pa_cons (pv 0) pa_nil)))))), ?_⟩
    cases it with
    | val k =>
      obtain ⟨p, rfl, hp⟩ := hv
      have ktt : kitB "tuple" "tuple" = some true := by decide +kernel
      have hk : KVal k := hw
      refine ⟨_, rfl, _, _, _, _, _, rfl, .ty _, .base (.tup hp), kit_ty ktt, _, rfl, ifT ?_⟩
      have hlen : 1 + (termW (keyD k)).length ≤ sizeLine := Nat.le_of_lt (small1000 (by have := keyW_len hk; omega))
      cases k with
      | inl i => exact ⟨_, rfl, _, _, _, _, rfl, rfl, .of hp, atI_nat (j := 0) rfl, .inr ⟨_, rfl, big30 (val_int (keyD_term hk)), _, _, rfl, rfl, hlen, q⟩⟩
      | inr s => exact ⟨_, rfl, _, _, _, _, rfl, rfl, .of hp, atI_nat (j := 0) rfl, .inl ⟨_, rfl, _, _, rfl, rfl, hlen, q⟩⟩
    | idx i =>
      have hv : v = .int i := hv
      subst hv
      have kit_ : kitB "int" "tuple" = some false := by decide +kernel
      have hk : 0 ≤ i ∧ i < 10 ^ 30 := hw
      refine ⟨_, rfl, _, _, _, _, _, rfl, .ty _, .base (.int i), kit_ty kit_, _, rfl, ifF ?_⟩
      have hlen : 1 + (nT i).length ≤ sizeLine := Nat.le_of_lt (small1000 (by have := nT_len (i := i) (by omega); omega))
      exact ⟨_, rfl, .inr ⟨_, rfl, big30 (by omega), _, _, rfl, rfl, hlen, q⟩⟩
/-- a thing of a step, and the words that it gives -/
def PcAt (H : Hp) (v : V) (ws : List Str) : Prop := (∃ s, v = .str s ∧ ws = [s] ∧ SgOk s) ∨ ∃ (g : Addr) (vs : List V) (its : List ItD), v = .ref g ∧ H g = some (.tup vs) ∧ ItsAt H vs its ∧ ws = its.map itemW ∧ (∀ it ∈ its, ItW it) ∧ its.length ≤ 10
theorem PcAt.same {H H' : Hp} {v : V} {ws : List Str} (h : PcAt H v ws) (s : Same H H') : PcAt H' v ws := by
  rcases h with h | ⟨g, vs, its, h1, h2, h3, h4⟩
  · exact .inl h
  · exact .inr ⟨g, vs, its, h1, s _ _ h2, ItsAt.keeps h3 fun _ _ e => s _ _ e, h4⟩
theorem pieces {H : Hp} {t : Addr} {st : StD} (h : StAt H t st) (hw : StW st) : st.kind = "where" ∨ ∃ xs wss, H t = some (.tup (.str st.kind :: xs)) ∧ Paired (PcAt H) (.str st.kind :: xs) wss ∧ wss.flatten = st.words ∧ xs.length ≤ 4 := by
  have hn := hw.ok.ns
  have wd : ∀ n ∈ st.ns, PcAt H (.str n) [n] := fun n h => .inl ⟨n, rfl, rfl, wd_sg (hn n h)⟩
  have lt : ∀ n ∈ (["start", "call", "both", "pair", "where", "take"] : List Str), PcAt H (.str n) [n] := fun n h => .inl ⟨n, rfl, rfl, lit_sgP n h⟩
  cases st with
  | start n => exact .inr ⟨_, [["start"], [n]], h, .cons (lt "start" (by simp)) (.cons (wd n (by simp [StD.ns])) .nil), rfl, by show 1 ≤ 4; decide⟩
  | join b n x y =>
    refine .inr ⟨_, [[if b then "both" else "pair"], [n], [x], [y]], h, .cons (lt _ ?_) (.cons (wd n (by simp [StD.ns])) (.cons (wd x (by simp [StD.ns])) (.cons (wd y (by simp [StD.ns])) .nil))), rfl, by show 3 ≤ 4; decide⟩
    show (if b then "both" else "pair" : Str) ∈ _
    cases b <;> simp
  | whr n o i it => exact .inl rfl
  | call n o s its =>
    obtain ⟨g, vs, h1, h2, h3⟩ := h
    refine .inr ⟨_, [["call"], [n], [o], [s], its.map itemW], h1, .cons (lt "call" (by simp)) (.cons (wd n (by simp [StD.ns])) (.cons (wd o (by simp [StD.ns])) (.cons (wd s (by simp [StD.ns])) (.cons (.inr ⟨g, vs, its, rfl, h2, h3, rfl, hw.its, hw.len⟩) .nil)))), ?_, by show 4 ≤ 4; decide⟩
    show [("call" : Str)] ++ ([n] ++ ([o] ++ ([s] ++ (its.map itemW ++ [])))) = _
    rw [List.append_nil]
    rfl
  | take n o its =>
    obtain ⟨g, vs, h1, h2, h3⟩ := h
    refine .inr ⟨_, [["take"], [n], [o], its.map itemW], h1, .cons (lt "take" (by simp)) (.cons (wd n (by simp [StD.ns])) (.cons (wd o (by simp [StD.ns])) (.cons (.inr ⟨g, vs, its, rfl, h2, h3, rfl, hw.its, hw.len⟩) .nil))), ?_, by show 3 ≤ 4; decide⟩
    show [("take" : Str)] ++ ([n] ++ ([o] ++ (its.map itemW ++ []))) = _
    rw [List.append_nil]
    rfl
def spLine6 : Sp := fun vs H Q _ => ∃ (t : Addr) (st : StD), vs = [.ref t] ∧ StAt H t st ∧ StW st ∧ ∀ H', Same H H' → Q (.str (lineS st)) H'
theorem ok_lline6 (T : Txt K mg a d) : FnOk P w K mg base CX0 2 (a 74) (d 74) ["_law_step_here"] spLine6 := by
  have G73 : FnOk P w K mg base CX0 1 (a 73) (d 73) ["_law_item_here"] spIW := ok_liw6 T
  refine T.F74.ok sc__law_line (fun vs H Q E h => ?_) (fun cdv A outer s H vs Q E hr h => ?_)
  · obtain ⟨t, st, rfl, _⟩ := h
    rfl
  · obtain ⟨t, st, rfl, hs, hw, q⟩ := h
    refine ⟨_, (pss_cons (ps_if (pt_cmpR op_eq (pe_ix ix_tup (pv 0) pe_int (fun _ _ => rfl)) pe_str (nomark _))
    (pss_one (ps_ret (pe_join pe_str (pe_lst (pa_cons pe_str (pa_cons (pe_ix ix_tup (pv 0) pe_int (fun _ _ => rfl)) (pa_cons (pe_ix ix_tup (pv 0) pe_int (fun _ _ => rfl)) (pa_cons (pe_callTy (T := "str")  (call_orC SkE.call_str_str call_str_int) (by rfl) T.z_str (by decide +kernel) (pa_cons (pe_ix ix_tup (pv 0) pe_int (fun _ _ => rfl)) pa_nil)) (pa_cons (pe_call G73 (hr.mono (by decide)) (by rfl) T.g73 T.F73.kp T.b73 .nil pass0 (pa_cons (pe_ix ix_tup (pv 0) pe_int (fun _ _ => rfl)) pa_nil)) pa_nil)))))))))
    pss_nil)
  (pss_cons (ps_set (i := 1) sc__law_line.nd rfl (.inl rfl) (pe_lst pa_nil))
  (pss_cons (ps_for PassesOwn.never rfl (pi_tup (pv 0)) (pg_name (i := 2) sc__law_line.nd rfl (.inl rfl))
    (pss_one (ps_if (pt_val (pe_callB (id := "isinstance")  call_isi (by rfl) T.z_isinstance (by decide +kernel) (pa_cons (pv 2) (pa_cons (pe_bltn (v := .ty "str") (by rfl) T.z_str (by decide +kernel) rfl) pa_nil))))
        (pss_one (ps_expr (pe_bm PySem.F.plainAttrs_list PySem.F.slot_list_append PySem.F.type_list_append mt_append (pv 1) (pa_cons (pv 2) pa_nil))))
        (pss_one (ps_expr (pe_bm PySem.F.plainAttrs_list PySem.F.slot_list_extend PySem.F.type_list_extend mt_extend (pv 1) (pa_cons (pe_lc (own := [("_law_item_here", 3)]) rfl sc__law_line.nd (pi_tup (pv 2)) (blkOk_by (N := ["_law_step_here", "_law_words", "_law_thing", "_law_item_here"]) (sc := defScope s__law_line) (by decide +kernel)) (fun _ _ _ _ _ => pg_name (i := 3) sc__law_line.nd rfl (.inl rfl)) (fun _ _ _ _ _ => pts_nil) (fun _ _ _ _ _ => (pe_call G73 (hr.mono (by decide)) (by rfl) T.g73 T.F73.kp T.b73 .nil pass0 (pa_cons (pv 3) pa_nil)))) pa_nil)))))))
  (pss_one (ps_ret (pe_join pe_str (pv 1))))))), ?_⟩
    have jl : ∀ {ws : List Str}, (∀ x ∈ ws, SgOk x) → ws.length ≤ 100 → (ws.map (·.length)).sum + ws.length * 1 ≤ 16777216 := fun {ws} h l => by
      have := join_len (ws := ws) fun s hs => Nat.le_trans (h s hs).1 (by decide)
      omega
    have wsg := words_sg hw
    have wln := words_len hw
    have lit : ∀ (s t : Str), s ≠ t → ¬ (V.str s = V.str t) := fun s t h e => h (V.str.inj e)
    by_cases hkw : st.kind = "where"
    · cases st with
      | whr n o i it =>
        obtain ⟨v, h1, h2⟩ := hs
        have hi : 0 ≤ i ∧ i < 10 ^ 30 := hw.its (.idx i) (by simp [StD.items])
        have hit : ItW it := hw.its it (by simp [StD.items])
        refine ⟨_, rfl, _, _, _, _, rfl, rfl, .of h1, atI_nat (j := 0) rfl, rfl, _, rfl, ite_d (fun _ => ?_) (fun e => absurd rfl e)⟩
        refine ⟨⟨_, rfl⟩, _, rfl, _, _, _, _, rfl, rfl, .of h1, atI_nat (j := 1) rfl, _, rfl, _, _, _, _, rfl, rfl, .of h1, atI_nat (j := 2) rfl, _, rfl, _, _, _, _, rfl, rfl, .of h1, atI_nat (j := 3) rfl, .inr ⟨_, rfl, big30 (by omega), _, rfl, _, _, _, _, rfl, rfl, .of h1, atI_nat (j := 4) rfl, v, it, rfl, h2, hit, by show 5 ≤ sizeLine; decide, fun L hL => ?_⟩⟩
        refine ⟨_, L, (StD.whr n o i it).words, rfl, rfl, .inl (.of upd_same), jl wsg (by show 5 ≤ 100; decide), ?_⟩
        rw [TL.join_eq]
        exact q _ (same_upd hL)
      | start n => exact absurd (show ("start" : Str) = "where" from hkw) (by decide +kernel)
      | call n o s its => exact absurd (show ("call" : Str) = "where" from hkw) (by decide +kernel)
      | take n o its => exact absurd (show ("take" : Str) = "where" from hkw) (by decide +kernel)
      | join b n x y =>
        exfalso
        have hkw : (if b then "both" else "pair" : Str) = "where" := hkw
        cases b <;> exact absurd hkw (by decide +kernel)
    · obtain ⟨xs, wss, ht, hp, ef, l4⟩ := (pieces hs hw).resolve_left hkw
      have hlen := Paired.length hp
      refine ⟨_, rfl, _, _, _, _, rfl, rfl, .of ht, atI_nat (j := 0) rfl, rfl, _, rfl, ite_d (fun e => absurd e (lit _ _ hkw)) (fun _ => ?_)⟩
      refine ⟨Nat.zero_le _, fun S hS => ?_⟩
      have zS := same_upd (o := .lst []) hS
      have eS : upd H S (.lst []) S = some (.lst []) := upd_same
      have ht1 := zS _ _ ht
      have hp1 := paired_imp (fun _ _ h => PcAt.same h zS) hp
      generalize upd H S (.lst []) = H1 at zS eS ht1 hp1 ⊢
      have ntS : t ≠ S := ne_of_none ht hS
      have lws : ∀ i, ((wss.take i).flatten).length ≤ 14 := fun i => by
        have h1 : wss.flatten = (wss.take i).flatten ++ (wss.drop i).flatten := by rw [← List.flatten_append, List.take_append_drop]
        have h2 := congrArg List.length h1
        rw [List.length_append, ef] at h2
        have := wln.1
        omega
      refine ⟨_, rfl, t, rfl, ⟨_, .of ht1⟩, for_tup (K := K) (a := t) (xs := .str st.kind :: xs) (fun i σ G => ∃ y2 y3 : Option V, σ = [some (.ref t), some (.ref S), y2, y3] ∧ G S = some (.lst (((wss.take i).flatten).map V.str)) ∧ ∀ b o, b ≠ S → H1 b = some o → G b = some o) ⟨none, none, rfl, eS, fun _ _ _ e => e⟩ (fun i σ G _ hp2 => ?_) (fun i y σ G hy hp2 => ?_) (fun σ G hp2 => ?_)⟩
      · obtain ⟨_, _, rfl, _, o⟩ := hp2
        exact .of (o _ _ ntS ht1)
      · obtain ⟨y2, y3, rfl, hSv, o⟩ := hp2
        obtain ⟨ws, hws, hpc⟩ := paired_at hp1 hy
        have et : (wss.take (i + 1)).flatten = (wss.take i).flatten ++ ws := by
          rw [take_snoc hws, List.flatten_append]
          show _ ++ (ws ++ []) = _
          rw [List.append_nil]
        have l14 := lws i
        rcases hpc with ⟨s, rfl, rfl, hsg⟩ | ⟨g, vs, its, rfl, h2, h3, rfl, h4, h5⟩
        · have kss : kitB "str" "str" = some true := by decide +kernel
          refine ⟨_, rfl, _, _, _, _, _, rfl, .ty _, .base (.str s), kit_ty kss, _, rfl, ifT ?_⟩
          refine ⟨_, rfl, .inl ⟨rfl, _, .of hSv⟩, _, rfl, S, _, _, rfl, rfl, hSv, by rw [List.length_map]; exact small1000 (by omega), _, _, rfl, ?_, fun b o' nb e => by rw [upd_ne nb]; exact o b o' nb e⟩
          rw [upd_same, et, List.map_append]
          rfl
        · have kst : kitB "tuple" "str" = some false := by decide +kernel
          have ngS : g ≠ S := fun e => by
            rw [e] at h2
            rw [eS] at h2
            cases h2
          have h2g := o _ _ ngS h2
          have lits := Paired.length h3
          have h3g : ItsAt G vs its := ItsAt.keeps h3 fun b us e => o _ _ (fun z' => by rw [z', eS] at e; cases e) e
          refine ⟨_, rfl, _, _, _, _, _, rfl, .ty _, .base (.tup h2g), kit_ty kst, _, rfl, ifF ?_⟩
          refine ⟨_, rfl, .inl ⟨rfl, _, .of hSv⟩, _, rfl, g, rfl, ⟨_, .of h2g⟩, fun D hD => ?_⟩
          refine lc_tup (K := K) (a := g) (xs := vs) (fun j G' => G' D = some (.lst (((its.take j).map itemW).map V.str)) ∧ Same G G') ⟨upd_same, same_upd hD⟩ (fun j G' _ hp5 => .of (hp5.2 _ _ h2g)) (fun j x G' hx hp5 => ?_) (fun G' hp5 => ?_)
          · obtain ⟨e6, he6, hxe⟩ := paired_at h3g hx
            have lj6 : j < vs.length := (List.getElem?_eq_some_iff.mp hx).1
            refine ⟨rfl, _, rfl, x, e6, rfl, hxe.keeps fun _ _ e => hp5.2 _ _ e, h4 e6 (List.mem_of_getElem? he6), _, hp5.1, ?_, ?_, fun b5 o6 eb => ?_⟩
            · rw [List.length_map, List.length_map, List.length_take]
              exact small1000 (by omega)
            · rw [map_take he6, List.map_append]
              exact upd_same
            · rw [upd_ne (ne_of_none eb hD)]
              exact hp5.2 b5 o6 eb
          · obtain ⟨g1, sG⟩ := hp5
            rw [lits, List.take_length] at g1
            refine ⟨S, D, _, _, rfl, rfl, sG _ _ hSv, g1, ?_, _, _, rfl, ?_, fun b o' nb e => by rw [upd_ne nb]; exact sG _ _ (o b o' nb e)⟩
            · rw [List.length_map, List.length_map, List.length_map]
              exact Nat.le_of_lt (small1000 (by omega))
            · rw [upd_same, et, List.map_append]
      · obtain ⟨y2, y3, rfl, hSv, o⟩ := hp2
        rw [hlen, List.take_length, ef] at hSv
        refine ⟨⟨_, rfl⟩, _, rfl, _, S, st.words, rfl, rfl, .inl (.of hSv), jl wsg (by have := wln.1; omega), ?_⟩
        rw [TL.join_eq]
        exact q _ fun b o' e => o _ _ (ne_of_none e hS) (zS _ _ e)
end
section
variable {P : Program} {w : World} {K : PySem.W.Frag} {mg : Str → Option Value} {base : Heap} {a : Nat → Addr} {d : Nat → FuncData}
theorem cut_refs {xs : List StE} (lo hi : Option Int) : ∃ ys, cutV (refsOf xs) lo hi = refsOf ys ∧ (∀ b ∈ ys, b ∈ xs) ∧ ys.length ≤ xs.length := by
  unfold cutV refsOf
  rw [← List.map_drop, ← List.map_take]
  exact ⟨_, rfl, fun b hb => List.mem_of_mem_drop (List.mem_of_mem_take hb), by rw [List.length_take, List.length_drop]; omega⟩
def spChg6 : Sp := fun vs H Q _ => ∃ (p l : Addr) (xs : List StE), vs = [.ref p, .ref l] ∧ l ≠ p ∧ Cell H p ∧ H l = some (.lst (refsOf xs)) ∧ 1 ≤ xs.length ∧ xs.length ≤ 12 ∧ ∀ l2 ys H', H' l2 = some (.lst (refsOf ys)) → (∀ b ∈ ys, b ∈ xs) → ys.length ≤ 40 → l2 ≠ p → Chs p H H' → Q (.ref l2) H'
theorem ok_lchg6 (T : Txt K mg a d) : FnOk P w K mg base CX0 2 (a 75) (d 75) ["_law_state_here", "_law_steps"] spChg6 := by
  have G67 : FnOk P w K mg base CX0 1 (a 67) (d 67) ["_law_state_here", "_law_many"] spPick2 := ok_pick2 T
  refine T.F75.ok sc__law_changed (fun vs H Q E h => ?_) (fun cdv A outer s H vs Q E hr h => ?_)
  · obtain ⟨p, l, xs, rfl, _⟩ := h
    rfl
  · obtain ⟨p, l, xs, rfl, nl, hP, hl, l1, l12, q⟩ := h
    refine ⟨_, (pss_cons (ps_set (i := 2) sc__law_changed.nd rfl (.inl rfl) (pe_call G67 (hr.mono (by decide)) (by rfl) T.g67 T.F67.kp T.b67 .nil pass0 (pa_cons (pv 0) (pa_cons (pe_callB (id := "len")  call_len_seq (by rfl) T.z_len (by decide +kernel) (pa_cons (pv 1) pa_nil)) pa_nil))))
  (pss_cons (ps_set (i := 3) sc__law_changed.nd rfl (.inl rfl) (pe_call G67 (hr.mono (by decide)) (by rfl) T.g67 T.F67.kp T.b67 .nil pass0 (pa_cons (pv 0) (pa_cons (pe_callB (id := "len")  call_len_seq (by rfl) T.z_len (by decide +kernel) (pa_cons (pv 1) pa_nil)) pa_nil))))
  (pss_cons (ps_set (i := 4) sc__law_changed.nd rfl (.inl rfl) (pe_call G67 (hr.mono (by decide)) (by rfl) T.g67 T.F67.kp T.b67 .nil pass0 (pa_cons (pv 0) (pa_cons pe_int pa_nil))))
  (pss_cons (ps_if (pt_cmpR op_eq (pv 4) pe_int (nomark _))
    (pss_one (ps_ret (pe_op op_cat (pe_slice sl_list (pv 1) po_none (po_some (pv 2))) (pe_slice sl_list (pv 1) (po_some (pe_op op_add (pv 2) pe_int)) po_none))))
    pss_nil)
  (pss_cons (ps_if (pt_cmpR op_eq (pv 4) pe_int (nomark _))
    (pss_one (ps_ret (pe_op op_cat (pe_op op_cat (pe_slice sl_list (pv 1) po_none (po_some (pv 2))) (pe_lst (pa_cons (pe_ix ix_list (pv 1) (pv 3) (fun _ _ => rfl)) pa_nil))) (pe_slice sl_list (pv 1) (po_some (pv 2)) po_none))))
    pss_nil)
  (pss_cons (ps_set (i := 5) sc__law_changed.nd rfl (.inl rfl) (pe_callTy (T := "list")  call_list_of (by rfl) T.z_list (by decide +kernel) (pa_cons (pv 1) pa_nil)))
  (pss_cons (ps_asg (pe_ix ix_list (pv 1) (pv 3) (fun _ _ => rfl)) (pg_sub (pv 5) (pv 2) set_list))
  (pss_cons (ps_asg (pe_ix ix_list (pv 1) (pv 2) (fun _ _ => rfl)) (pg_sub (pv 5) (pv 3) set_list))
  (pss_one (ps_ret (pv 5))))))))))), ?_⟩
    have ll : (refsOf xs).length = xs.length := List.length_map ..
    refine ⟨_, rfl, _, rfl, l, _, rfl, .inl (.of hl), p, (((refsOf xs).length : Nat) : Int), rfl, hP, by omega, by rw [ll, Int.natAbs_natCast]; exact Nat.lt_of_le_of_lt l12 (by decide), fun at_ H1 a0 a1 C1 => ?_⟩
    have hl1 := C1.at nl hl
    refine ⟨_, rfl, _, rfl, l, _, rfl, .inl (.of hl1), p, (((refsOf xs).length : Nat) : Int), rfl, C1.1, by omega, by rw [ll, Int.natAbs_natCast]; exact Nat.lt_of_le_of_lt l12 (by decide), fun ot H2 o0 o1 C2' => ?_⟩
    have C2 := C1.trans C2'
    refine ⟨_, rfl, p, 4, rfl, C2.1, by decide, by decide, fun kd H3 k0 k1 C3' => ?_⟩
    have C3 := C2.trans C3'
    have hl3 := C3.at nl hl
    clear C1 C2 C2' C3' hl1
    obtain ⟨an, rfl⟩ : ∃ n : Nat, at_ = (n : Int) := ⟨at_.toNat, by omega⟩
    obtain ⟨on, rfl⟩ : ∃ n : Nat, ot = (n : Int) := ⟨ot.toNat, by omega⟩
    have aL : an < xs.length := by omega
    have oL : on < xs.length := by omega
    have eV : ∀ {i : Nat} (h : i < xs.length), atI (refsOf xs) (i : Int) = some (.ref (xs[i]).1) := fun {i} h => atI_nat (by unfold refsOf; rw [List.getElem?_map, List.getElem?_eq_getElem h]; rfl)
    refine ⟨_, rfl, rfl, _, rfl, ite_eqI (fun _ => ?_) (fun _ => ?_)⟩
    · refine ⟨_, rfl, _, rfl, _, rfl, l, _, rfl, .of hl3, fun u1 f1 => ?_⟩
      obtain ⟨y1, e1, m1, n1⟩ := cut_refs (xs := xs) none (some (an : Int))
      rw [e1]
      have z1 := same_upd (o := .lst (refsOf y1)) f1
      have g1 : upd H3 u1 (.lst (refsOf y1)) u1 = some (.lst (refsOf y1)) := upd_same
      generalize upd H3 u1 (.lst (refsOf y1)) = G1 at z1 g1 ⊢
      refine ⟨_, rfl, _, rfl, _, _, rfl, rfl, _, rfl, l, _, rfl, .of (z1 _ _ hl3), fun u2 f2 => ?_⟩
      obtain ⟨y2, e2, m2, n2⟩ := cut_refs (xs := xs) (some ((an : Int) + 1)) none
      rw [e2]
      have z2 := same_upd (o := .lst (refsOf y2)) f2
      have g2 : upd G1 u2 (.lst (refsOf y2)) u2 = some (.lst (refsOf y2)) := upd_same
      have g1 := z2 _ _ g1
      generalize upd G1 u2 (.lst (refsOf y2)) = G2 at z2 g1 g2 ⊢
      have l3 : (refsOf y1).length = y1.length := List.length_map ..
      have l4 : (refsOf y2).length = y2.length := List.length_map ..
      refine ⟨u1, u2, _, _, rfl, rfl, g1, g2, small1000' (by omega), fun u3 f3 => ?_⟩
      have C9 := (C3.sm z1).sm z2
      exact q u3 (y1 ++ y2) _ (by rw [upd_same]; unfold refsOf; rw [List.map_append]) (fun b hb => (List.mem_append.mp hb).elim (m1 b) (m2 b)) (by rw [List.length_append]; omega) (C9.1.ne f3) (C9.sm (same_upd f3))
    refine ⟨_, rfl, rfl, _, rfl, ite_eqI (fun _ => ?_) (fun _ => ?_)⟩
    · refine ⟨_, rfl, _, rfl, _, rfl, l, _, rfl, .of hl3, fun u1 f1 => ?_⟩
      obtain ⟨y1, e1, m1, n1⟩ := cut_refs (xs := xs) none (some (an : Int))
      rw [e1]
      have z1 := same_upd (o := .lst (refsOf y1)) f1
      have g1 : upd H3 u1 (.lst (refsOf y1)) u1 = some (.lst (refsOf y1)) := upd_same
      generalize upd H3 u1 (.lst (refsOf y1)) = G1 at z1 g1 ⊢
      refine ⟨_, rfl, _, rfl, _, _, _, _, rfl, rfl, .of (z1 _ _ hl3), eV oL, by show 1 ≤ sizeLine; decide, fun u4 f4 => ?_⟩
      have z4 := same_upd (o := .lst [.ref (xs[on]).1]) f4
      have g4 : upd G1 u4 (.lst [.ref (xs[on]).1]) u4 = some (.lst [.ref (xs[on]).1]) := upd_same
      have g1 := z4 _ _ g1
      have z14 := z1.trans z4
      generalize upd G1 u4 (.lst [.ref (xs[on]).1]) = G4 at z14 g1 g4 ⊢
      have l3 : (refsOf y1).length = y1.length := List.length_map ..
      refine ⟨u1, u4, _, _, rfl, rfl, g1, g4, small1000' (by show _ + 1 ≤ 1000; omega), fun u5 f5 => ?_⟩
      have e5 : refsOf y1 ++ [V.ref (xs[on]).1] = refsOf (y1 ++ [xs[on]]) := by unfold refsOf; rw [List.map_append]; rfl
      rw [e5]
      have z5 := same_upd (o := .lst (refsOf (y1 ++ [xs[on]]))) f5
      have g5 : upd G4 u5 (.lst (refsOf (y1 ++ [xs[on]]))) u5 = some (.lst (refsOf (y1 ++ [xs[on]]))) := upd_same
      have z15 := z14.trans z5
      generalize upd G4 u5 (.lst (refsOf (y1 ++ [xs[on]]))) = G5 at z15 g5 ⊢
      refine ⟨_, rfl, _, rfl, _, rfl, l, _, rfl, .of (z15 _ _ hl3), fun u2 f2 => ?_⟩
      obtain ⟨y2, e2, m2, n2⟩ := cut_refs (xs := xs) (some (an : Int)) none
      rw [e2]
      have z2 := same_upd (o := .lst (refsOf y2)) f2
      have g2 : upd G5 u2 (.lst (refsOf y2)) u2 = some (.lst (refsOf y2)) := upd_same
      have g5 := z2 _ _ g5
      have z16 := z15.trans z2
      generalize upd G5 u2 (.lst (refsOf y2)) = G2 at z16 g5 g2 ⊢
      have l4 : (refsOf y2).length = y2.length := List.length_map ..
      have l5 : (refsOf (y1 ++ [xs[on]])).length = y1.length + 1 := by unfold refsOf; rw [List.length_map, List.length_append]; rfl
      refine ⟨u5, u2, _, _, rfl, rfl, g5, g2, small1000' (by omega), fun u3 f3 => ?_⟩
      have C9 := C3.sm z16
      refine q u3 ((y1 ++ [xs[on]]) ++ y2) _ (by rw [upd_same]; unfold refsOf; rw [List.map_append (l₂ := y2)]) (fun b hb => ?_) (by rw [List.length_append, List.length_append]; show _ + 1 + _ ≤ 40; omega) (C9.1.ne f3) (C9.sm (same_upd f3))
      rcases List.mem_append.mp hb with hb | hb
      · rcases List.mem_append.mp hb with hb | hb
        · exact m1 b hb
        · rw [List.mem_singleton.mp hb]
          exact List.getElem_mem oL
      · exact m2 b hb
    refine ⟨_, rfl, l, _, rfl, .inl (.of hl3), fun u1 f1 => ?_⟩
    have z1 := same_upd (o := .lst (refsOf xs)) f1
    have g1 : upd H3 u1 (.lst (refsOf xs)) u1 = some (.lst (refsOf xs)) := upd_same
    have nu : u1 ≠ p := C3.1.ne f1
    have nul : l ≠ u1 := ne_of_none hl3 f1
    have hu := C3.free hP f1
    have C4 := C3.sm z1
    have hl4 := z1 _ _ hl3
    generalize upd H3 u1 (.lst (refsOf xs)) = G1 at C4 g1 hl4 ⊢
    refine ⟨_, rfl, _, rfl, _, _, _, _, rfl, rfl, .of hl4, eV oL, ?_⟩
    refine ⟨_, rfl, _, rfl, _, _, _, an, rfl, rfl, g1, ixN_at (j := an) (by omega), ?_⟩
    have es : (refsOf xs).set an (.ref (xs[on]).1) = refsOf (xs.set an xs[on]) := by unfold refsOf; rw [List.map_set]
    rw [es]
    have g2 : upd G1 u1 (.lst (refsOf (xs.set an xs[on]))) u1 = some (.lst (refsOf (xs.set an xs[on]))) := upd_same
    have C5 := C4.mut (o := .lst (refsOf (xs.set an xs[on]))) hu nu
    have hl5 : upd G1 u1 (.lst (refsOf (xs.set an xs[on]))) l = some (.lst (refsOf xs)) := by rw [upd_ne nul]; exact hl4
    generalize upd G1 u1 (.lst (refsOf (xs.set an xs[on]))) = G2 at C5 g2 hl5 ⊢
    have ll2 : (refsOf (xs.set an xs[on])).length = xs.length := by unfold refsOf; rw [List.length_map, List.length_set]
    refine ⟨_, rfl, _, rfl, _, _, _, _, rfl, rfl, .of hl5, eV aL, ?_⟩
    refine ⟨_, rfl, _, rfl, _, _, _, on, rfl, rfl, g2, ixN_at (j := on) (by omega), ?_⟩
    have es2 : (refsOf (xs.set an xs[on])).set on (.ref (xs[an]).1) = refsOf ((xs.set an xs[on]).set on xs[an]) := by unfold refsOf; simp only [List.map_set]
    rw [es2]
    refine ⟨_, rfl, q u1 ((xs.set an xs[on]).set on xs[an]) _ upd_same (fun b hb => ?_) (by rw [List.length_set, List.length_set]; omega) nu (C5.mut hu nu)⟩
    rcases List.mem_or_eq_of_mem_set hb with hb | rfl
    · rcases List.mem_or_eq_of_mem_set hb with hb | rfl
      · exact hb
      · exact List.getElem_mem oL
    · exact List.getElem_mem aL
/-! ### what Program of these says -/
def ToldP (ts : List (Str × Int)) (ss : List SvE) (sts : List StD) (H : Hp) (Q : VK) : Prop :=
  (dueP ts ss sts = none → ∀ t l xs H', xs.map (·.2) = sts → H' t = some (.tup [.str "told", .ref l]) → H' l = some (.lst (refsOf xs)) → (∀ b ∈ xs, StAt H' b.1 b.2 ∧ StOk b.2) → Same H H' → Q (.ref t) H') ∧
  (∀ u v, dueP ts ss sts = some (u, v) → ∀ t H', H' t = some (.tup [.str "raised", .str u, v]) → Same H H' → Q (.ref t) H')
def spMade6 (CS : Addr) : Sp := fun vs H Q _ => ∃ (sp l : Addr) (ts : List (Str × Int)) (ks : List KeyE) (ss : List SvE) (m n : Nat) (xs : List StE), vs = [.ref sp, .ref l] ∧ SchAt CS sp H ts ks ss m n ∧ H l = some (.lst (refsOf xs)) ∧ (∀ b ∈ xs, StAt H b.1 b.2 ∧ StOk b.2) ∧ ToldP ts ss (xs.map (·.2)) H Q
theorem ok_made6 (T : Txt K mg a d) (W : TxtW K w a) : FnOk P w K mg base CX0 9 (a 76) (d 76) ["_law_schema", "_law_steps"] (spMade6 (a 48)) := by
  have G4100 : FnOk P w K mg base (L2.CX P w) 7 (a 4100) (d 4100) ["self", "schema", "steps"] (spPInit3 (a 48) (a 31) (a 5)) := ok_pinit3 T W
  have G4102 : FnOk P w K mg base CX0 1 (a 4102) (d 4102) ["self"] (spStL (a 48) (a 31)) := ok_stl T
  refine T.F76.ok sc__law_made (fun vs H Q E h => ?_) (fun cdv A outer s H vs Q E hr h => ?_)
  · obtain ⟨sp, l, ts, ks, ss, m, n, xs, rfl, _⟩ := h
    rfl
  · obtain ⟨sp, l, ts, ks, ss, m, n, xs, rfl, hS, hl, hx, q0, q1⟩ := h
    refine ⟨_, (pss_cons (ps_set (i := 2) sc__law_made.nd rfl (.inl rfl) (pe_tup (pa_cons pe_str (pa_cons pe_non (pa_cons pe_non pa_nil)))))
  (pss_cons (ps_try_as (i := 3) (Wout := fun _ _ _ _ => False) rfl rfl sc__law_made.nd rfl rfl ⟨rfl, by decide, Or.inl T.cg_5⟩ takes0
    (fun W pn xe tk po => (pss_one (ps_set (i := 2) sc__law_made.nd rfl (.inl rfl) (pe_tup (pa_cons pe_str (pa_cons (pe_meth0 (pe_makeX T.M_31 G4100 (hr.mono (by decide)) (by rfl) T.cg_31 T.b4100 (fun σ => passAt tk σ) (pa_cons (pv 0) (pa_cons (pv 1) pa_nil))) T.cl_31 T.m_4102 G4102 (hr.mono (by decide)) T.b4102 .nil pass0) pa_nil))))))
    (fun ea oe cls ed pn hz hf => (pss_one (ps_set (i := 2) sc__law_made.nd rfl (.inl rfl) (pe_tup (pa_cons pe_str (pa_cons (pe_xf T.xf_5 T.no_5_part hz hf (pv 3)) (pa_cons (pe_xf T.xf_5 T.no_5_at hz hf (pv 3)) pa_nil))))))))
  (pss_one (ps_ret (pv 2))))), ?_⟩
    refine ⟨by show 3 ≤ sizeLine; decide, fun t0 ht0 => ?_⟩
    have z0 := same_upd (o := .tup [.str "raised", .non, .non]) ht0
    generalize upd H t0 (.tup [.str "raised", .non, .non]) = H1 at z0 ⊢
    refine ⟨_, rfl, _, rfl, fun y dy fy fdy ndy => mk_prog3 (hS.same z0) (z0 _ _ hl) (fun b hb => ⟨(hx b hb).1.keeps fun _ _ e => z0 _ _ e, (hx b hb).2⟩) fy fdy ndy (fun u v he G14 s14 => ?_) fun hn tz G14 l' hP s14 => ?_⟩
    · intro xd G15 hxd hdd s15
      refine ⟨true, T.exm_5_5, fun _ ea hea => ?_, fun z => Bool.noConfusion z⟩
      have sF := (z0.trans s14).trans s15
      refine ⟨_, rfl, rfl, rfl, xd, _, _, rfl, hdd, rfl, _, rfl, rfl, rfl, xd, _, _, rfl, hdd, rfl, by show 3 ≤ sizeLine; decide, fun t ht => ?_⟩
      exact ⟨_, rfl, (q1 u v he t _ upd_same (sF.trans (same_upd ht)))⟩
    · refine ⟨y, dy, _, rfl, hP.ob, rfl, y, dy, sp, l', ts, ks, ss, m, n, xs, tz, rfl, hP, fun r hr1 => ⟨by show 2 ≤ sizeLine; decide, fun t ht => ?_⟩⟩
      have zr := same_upd (o := .lst (refsOf xs)) hr1
      have zt := same_upd (o := .tup [.str "told", .ref r]) ht
      have sF := ((z0.trans s14).trans zr).trans zt
      exact ⟨_, rfl, q0 hn t r xs _ rfl upd_same (zt _ _ upd_same) (fun b hb => ⟨(hP.st b hb).1.keeps fun _ _ e => zt _ _ (zr _ _ e), (hP.st b hb).2⟩) sF⟩
def spRead6 (CS : Addr) : Sp := fun vs H Q _ => ∃ (sp L : Addr) (ts : List (Str × Int)) (ks : List KeyE) (ss : List SvE) (m n : Nat) (sts : List StD), vs = [.ref sp, .ref L] ∧ SchAt CS sp H ts ks ss m n ∧ H L = some (.lst ((sts.map lineS).map V.str)) ∧ sts.length ≤ 100 ∧ (∀ st ∈ sts, StW st) ∧ ToldP ts ss sts H Q
theorem ok_lread6 (T : Txt K mg a d) (W : TxtP K w a) : FnOk P w K mg base CX0 11 (a 77) (d 77) ["_law_schema", "_law_lines"] (spRead6 (a 48)) := by
  have G59 : FnOk P w K mg base (L2.CX P w) 9 (a 59) (d 59) ["schema", "lines"] (spReadP (a 48) (a 31) (a 5)) := ok_rdp T W
  have G4102 : FnOk P w K mg base CX0 1 (a 4102) (d 4102) ["self"] (spStL (a 48) (a 31)) := ok_stl T
  refine T.F77.ok sc__law_read (fun vs H Q E h => ?_) (fun cdv A outer s H vs Q E hr h => ?_)
  · obtain ⟨sp, L, ts, ks, ss, m, n, sts, rfl, _⟩ := h
    rfl
  · obtain ⟨sp, L, ts, ks, ss, m, n, sts, rfl, hS, hL, l100, hw, q0, q1⟩ := h
    refine ⟨_, (pss_cons (ps_set (i := 2) sc__law_read.nd rfl (.inl rfl) (pe_tup (pa_cons pe_str (pa_cons pe_non (pa_cons pe_non pa_nil)))))
  (pss_cons (ps_try_as (i := 3) (Wout := fun _ _ _ _ => False) rfl rfl sc__law_read.nd rfl rfl ⟨rfl, by decide, Or.inl T.cg_5⟩ takes0
    (fun W pn xe tk po => (pss_one (ps_set (i := 2) sc__law_read.nd rfl (.inl rfl) (pe_tup (pa_cons pe_str (pa_cons (pe_meth0 (pe_callS G59 (hr.mono (by decide)) (by rfl) T.g59 T.F59.kp T.b59 (fun σ => passAt tk σ) (pa_cons (pv 0) (pa_cons (pv 1) pa_nil))) T.cl_31 T.m_4102 G4102 (hr.mono (by decide)) T.b4102 .nil pass0) pa_nil))))))
    (fun ea oe cls ed pn hz hf => (pss_one (ps_set (i := 2) sc__law_read.nd rfl (.inl rfl) (pe_tup (pa_cons pe_str (pa_cons (pe_xf T.xf_5 T.no_5_part hz hf (pv 3)) (pa_cons (pe_xf T.xf_5 T.no_5_at hz hf (pv 3)) pa_nil))))))))
  (pss_one (ps_ret (pv 2))))), ?_⟩
    refine ⟨by show 3 ≤ sizeLine; decide, fun t0 ht0 => ?_⟩
    have z0 := same_upd (o := .tup [.str "raised", .non, .non]) ht0
    generalize upd H t0 (.tup [.str "raised", .non, .non]) = H1 at z0 ⊢
    refine ⟨_, rfl, _, rfl, sp, L, ts, ks, ss, m, n, sts, rfl, hS.same z0, z0 _ _ hL, l100, hw, fun hn y dy l' xs tz G14 ex hP s14 => ?_, fun u v he G14 s14 => ?_⟩
    · refine ⟨y, dy, _, rfl, hP.ob, rfl, y, dy, sp, l', ts, ks, ss, m, n, xs, tz, rfl, hP, fun r hr1 => ⟨by show 2 ≤ sizeLine; decide, fun t ht => ?_⟩⟩
      have zr := same_upd (o := .lst (refsOf xs)) hr1
      have zt := same_upd (o := .tup [.str "told", .ref r]) ht
      have sF := ((z0.trans s14).trans zr).trans zt
      exact ⟨_, rfl, q0 hn t r xs _ ex upd_same (zt _ _ upd_same) (fun b hb => ⟨(hP.st b hb).1.keeps fun _ _ e => zt _ _ (zr _ _ e), (hP.st b hb).2⟩) sF⟩
    · intro xd G15 hxd hdd s15
      refine ⟨true, T.exm_5_5, fun _ ea hea => ?_, fun z => Bool.noConfusion z⟩
      have sF := (z0.trans s14).trans s15
      refine ⟨_, rfl, rfl, rfl, xd, _, _, rfl, hdd, rfl, _, rfl, rfl, rfl, xd, _, _, rfl, hdd, rfl, by show 3 ≤ sizeLine; decide, fun t ht => ?_⟩
      exact ⟨_, rfl, (q1 u v he t _ upd_same (sF.trans (same_upd ht)))⟩
end
theorem sch_chs0 {C q p : Addr} {H H' : Hp} {ts : List (Str × Int)} {ks : List KeyE} {ss : List SvE} {m n : Nat} (h : SchAt C q H ts ks ss m n) (hP : Cell H p) (c : Chs p H H') : SchAt C q H' ts ks ss m n := by
  obtain ⟨dx, d1, d2, d3, O⟩ := h
  have tp : ∀ b xs, H b = some (.tup xs) → H' b = some (.tup xs) := fun b xs e => c.at (cell_ne hP e (by intro _ z; cases z)) e
  have dc : ∀ {t : Addr} {kvs : List (Key × V)}, DctAt H t kvs → DctAt H' t kvs := fun {t kvs} h => by
    obtain ⟨ks, e, pm⟩ := h
    exact ⟨ks, c.at (cell_ne hP e (by intro _ z; cases z)) e, pm⟩
  exact ⟨dx, d1, d2, d3, c.at (cell_ne hP O.ob (by intro _ z; cases z)) O.ob, dc O.tb, dc O.ky, dc O.sv, O.hT, O.hK.mono tp, O.hS.mono tp, O.m5, O.n8⟩
theorem keys0 {H : Hp} {ts : List (Str × Int)} : Keys H ts [] := ⟨List.nodup_nil, Nat.zero_le _, (fun b hb => by cases hb), (fun b hb => by cases hb)⟩
def ts6 : List (Str × Int) := [("b", 3), ("aa", 3)]
def ss6 (t1 g1 t2 g2 t3 g3 : Addr) : List SvE := [⟨"start", t1, "b", g1, [], some 1⟩, ⟨"take", t2, "aa", g2, [1], none⟩, ⟨"abcdefgh", t3, "b", g3, [0, 2], none⟩]
theorem wds6 : ∀ s ∈ (["b", "aa", "start", "take", "abcdefgh"] : List Str), Wd s := by
  have h : ((["b", "aa", "start", "take", "abcdefgh"] : List Str).all fun s => decide (1 ≤ s.length) && decide (s.length ≤ 8) && s.cps.toList.all fun c => decide (97 ≤ c) && decide (c ≤ 122)) = true := by decide +kernel
  intro s hs
  have h1 := List.all_eq_true.mp h s hs
  simp only [Bool.and_eq_true, List.all_eq_true, decide_eq_true_eq] at h1
  exact ⟨h1.1.1, h1.1.2, fun c hc => h1.2 c hc⟩
theorem nd_ts6 : (ts6.map (·.1)).Nodup := by
  have h : (["b", "aa"] : List Str).Nodup := by decide +kernel
  exact h
theorem tabs6 : Tabs ts6 2 4 := by
  refine ⟨⟨rfl, nd_ts6, fun s hs => ?_⟩, fun b hb => ?_⟩
  · have hs : s ∈ (["b", "aa"] : List Str) := hs
    exact wds6 s (List.mem_append_left (["start", "take", "abcdefgh"] : List Str) hs)
  · have hb : b ∈ ([("b", 3), ("aa", 3)] : List (Str × Int)) := hb
    simp only [List.mem_cons, List.not_mem_nil, or_false] at hb
    rcases hb with rfl | rfl <;> exact ⟨by show (1 : Int) ≤ 3; decide, by show (3 : Int) ≤ 4; decide⟩
theorem nd_ss6 {t1 g1 t2 g2 t3 g3 : Addr} : ((ss6 t1 g1 t2 g2 t3 g3).map (·.name)).Nodup := by
  have h : (["start", "take", "abcdefgh"] : List Str).Nodup := by decide +kernel
  exact h
theorem mem_ss6 {P : SvE → Prop} {t1 g1 t2 g2 t3 g3 : Addr} (h1 : P ⟨"start", t1, "b", g1, [], some 1⟩) (h2 : P ⟨"take", t2, "aa", g2, [1], none⟩) (h3 : P ⟨"abcdefgh", t3, "b", g3, [0, 2], none⟩) : ∀ b ∈ ss6 t1 g1 t2 g2 t3 g3, P b := by
  intro b hb
  have hb : b ∈ ([⟨"start", t1, "b", g1, [], some 1⟩, ⟨"take", t2, "aa", g2, [1], none⟩, ⟨"abcdefgh", t3, "b", g3, [0, 2], none⟩] : List SvE) := hb
  simp only [List.mem_cons, List.not_mem_nil, or_false] at hb
  rcases hb with rfl | rfl | rfl <;> assumption
theorem svcs6 {H : Hp} {t1 g1 t2 g2 t3 g3 : Addr} (a1 : H t1 = some (.tup [.str "b", .ref g1, .int 1])) (b1 : H g1 = some (.tup [])) (a2 : H t2 = some (.tup [.str "aa", .ref g2, .non])) (b2 : H g2 = some (.tup [.int 1])) (a3 : H t3 = some (.tup [.str "b", .ref g3, .non])) (b3 : H g3 = some (.tup [.int 0, .int 2])) :
    Svcs H ts6 [] (ss6 t1 g1 t2 g2 t3 g3) 3 := by
  refine ⟨⟨rfl, nd_ss6, fun s hs => ?_⟩, mem_ss6 ?_ ?_ ?_, ?_⟩
  · have hs : s ∈ (["start", "take", "abcdefgh"] : List Str) := hs
    exact wds6 s (List.mem_append_right (["b", "aa"] : List Str) hs)
  · exact ⟨⟨a1, b1⟩, ⟨3, by show (("b" : Str), (3 : Int)) ∈ ([("b", 3), ("aa", 3)] : List (Str × Int)); simp, ⟨.nil, fun c hc => by cases hc⟩, by show 0 ≤ 4; decide⟩, fun c hc => by cases hc; exact ⟨by decide, by decide⟩⟩
  · exact ⟨⟨a2, b2⟩, ⟨3, by show (("aa" : Str), (3 : Int)) ∈ ([("b", 3), ("aa", 3)] : List (Str × Int)); simp, ⟨List.pairwise_singleton _ _, fun c hc => by rw [List.mem_singleton.mp hc]; exact ⟨by decide, by decide⟩⟩, by show 1 ≤ 4; decide⟩, fun c hc => by cases hc⟩
  · refine ⟨⟨a3, b3⟩, ⟨3, by show (("b" : Str), (3 : Int)) ∈ ([("b", 3), ("aa", 3)] : List (Str × Int)); simp, ⟨by show List.Pairwise (· < ·) [(0 : Int), 2]; decide, fun c hc => ?_⟩, by show 2 ≤ 4; decide⟩, fun c hc => by cases hc⟩
    have hc : c ∈ [(0 : Int), 2] := hc
    simp only [List.mem_cons, List.not_mem_nil, or_false] at hc
    rcases hc with rfl | rfl <;> exact ⟨by decide, by decide⟩
  · have e : fillE ts6 [] (ss6 t1 g1 t2 g2 t3 g3) = if whE ts6 [] (⟨"start", t1, "b", g1, [], some 1⟩ : SvE) = true then ([] : List Str) else ["b"] := by
      have w2 : whE ts6 [] (⟨"take", t2, "aa", g2, [1], none⟩ : SvE) = true := rfl
      have w3 : whE ts6 [] (⟨"abcdefgh", t3, "b", g3, [0, 2], none⟩ : SvE) = true := rfl
      unfold fillE ss6
      cases e : whE ts6 [] (⟨"start", t1, "b", g1, [], some 1⟩ : SvE) <;> simp [e, w2, w3]
    rw [e]
    split
    · exact List.nodup_nil
    · exact List.nodup_cons.mpr ⟨by simp, List.nodup_nil⟩
theorem fix6 {H : Hp} {sv t1 g1 t2 g2 t3 g3 : Addr} (hd : H sv = some (.dK (svK (ss6 t1 g1 t2 g2 t3 g3)))) (h : Svcs H ts6 [] (ss6 t1 g1 t2 g2 t3 g3) 3) : SvFix H sv ts6 (ss6 t1 g1 t2 g2 t3 g3) := by
  have wb : widthAt ts6 "b" = 3 := widthAt_mem nd_ts6 (by show (("b" : Str), (3 : Int)) ∈ ([("b", 3), ("aa", 3)] : List (Str × Int)); simp)
  have wa : widthAt ts6 "aa" = 3 := widthAt_mem nd_ts6 (by show (("aa" : Str), (3 : Int)) ∈ ([("b", 3), ("aa", 3)] : List (Str × Int)); simp)
  exact ⟨hd, fun b hb => (h.ok b hb).told, nd_ss6, by show 1 ≤ 3; decide, by show 3 ≤ 8; decide, mem_ss6 ⟨wds6 "start" (by simp), wb, by show 0 ≤ 4; decide⟩ ⟨wds6 "take" (by simp), wa, by show 1 ≤ 4; decide⟩ ⟨wds6 "abcdefgh" (by simp), wb, by show 2 ≤ 4; decide⟩⟩
theorem stsD_eq {xs ys : List StE} (h : xs.map (·.2) = ys.map (·.2)) : stsD xs = stsD ys := by
  have e : ∀ zs : List StE, stsD zs = .list ((zs.map (·.2)).map stD) := fun zs => by unfold stsD; rw [List.map_map]; rfl
  rw [e, e, h]
theorem sts_dp {K : PySem.W.Frag} {H : Hp} {l : Addr} {xs : List StE} (e : H l = some (.lst (refsOf xs))) (h : ∀ b ∈ xs, StAt H b.1 b.2 ∧ StOk b.2) : Dp K H (.ref l) (stsD xs) := .lst (.of e) (dp_sts h)
theorem ToldP.mono {ts : List (Str × Int)} {ss : List SvE} {sts : List StD} {H : Hp} {Q R : VK} (k : ∀ v H, Q v H → R v H) (h : ToldP ts ss sts H Q) : ToldP ts ss sts H R :=
  ⟨fun e t l xs H' e0 e1 e2 e3 s => k _ _ (h.1 e t l xs H' e0 e1 e2 e3 s), fun u v e t H' e1 s => k _ _ (h.2 u v e t H' e1 s)⟩
theorem dueP_in {ts : List (Str × Int)} {ss : List SvE} {sts : List StD} {u : Str} {v : V} (h : dueP ts ss sts = some (u, v)) : u ∈ (["steps", "form", "name", "items", "width", "limit"] : List Str) ∧ (v = .non ∨ ∃ i : Int, v = .int i) := by
  have wr : ∀ {sz : Str → Option SzD} {st : StD} {x : Str}, wrongOf ts ss sz st = some x → x ∈ (["steps", "form", "name", "items", "width", "limit"] : List Str) := by
    intro sz st x h
    unfold wrongOf at h
    split at h
    · cases h; simp
    split at h
    · cases h; simp
    split at h
    · cases h; simp
    split at h
    · cases h; simp
    · cases h
  have run : ∀ {xs : List StD} {sz : Str → Option SzD} {i : Nat} {x : Str × Nat}, runG ts ss xs sz i = .inl x → x.1 ∈ (["steps", "form", "name", "items", "width", "limit"] : List Str) := by
    intro xs
    induction xs with
    | nil => intro sz i x h; cases h
    | cons st r ih =>
      intro sz i x h
      have h : (match wrongOf ts ss sz st with | some u => Sum.inl (u, i) | none => runG ts ss r (putS sz st.name (sizeOf sz (wOf ts ss st) st)) (i + 1)) = Sum.inl x := h
      cases e : wrongOf ts ss sz st with
      | some u =>
        rw [e] at h
        cases h
        exact wr e
      | none =>
        rw [e] at h
        exact ih h
  unfold dueP at h
  split at h
  · cases e : runG ts ss sts sz0 0 with
    | inl z =>
      rw [e] at h
      cases h
      exact ⟨run e, .inr ⟨_, rfl⟩⟩
    | inr z =>
      rw [e] at h
      cases h
  · cases h
    exact ⟨by simp, .inl rfl⟩
def vD : V → PyData
  | .int i => .int i
  | _ => .none
theorem lays6 {u : Str} {v : V} (hu : u ∈ (["steps", "form", "name", "items", "width", "limit"] : List Str)) (hv : v = .non ∨ ∃ i : Int, v = .int i) : (PyData.tuple [.str "raised", .str u, vD v]).canLay0 = true ∧ SeqAt.shaped (.tuple [.str "raised", .str u, vD v]) = true ∧ ∀ (K : PySem.W.Frag) (H : Hp), Dp K H v (vD v) := by
  have low : ∀ s ∈ (["steps", "form", "name", "items", "width", "limit", "raised"] : List Str), Low s := by
    have h : ((["steps", "form", "name", "items", "width", "limit", "raised"] : List Str).all fun s => s.cps.toList.all fun c => decide (c < 128)) = true := by decide +kernel
    intro u hu c hc
    exact of_decide_eq_true (List.all_eq_true.mp (List.all_eq_true.mp h u hu) c hc)
  have l1 := low_ok (low "raised" (by simp))
  have l2 := low_ok (low u (List.mem_append_left (["raised"] : List Str) hu))
  have c : (PyData.tuple [.str "raised", .str u, vD v]).canLay0 = true := by
    rcases hv with rfl | ⟨i, rfl⟩ <;> simp only [PyData.canLay0, PyData.canLayAll0, l1, l2, vD, Bool.and_self]
  refine ⟨c, ?_, fun K H => by rcases hv with rfl | ⟨i, rfl⟩; exact .non; exact .int i⟩
  unfold SeqAt.shaped
  rw [c, Bool.true_and]
  exact decide_eq_true (by rcases hv with rfl | ⟨i, rfl⟩ <;> (simp only [PyData.depth, PyData.depthAll, vD]; decide))
theorem lays_told {xs : List StE} (h : ∀ b ∈ xs, StOk b.2) : (PyData.tuple [.str "told", stsD xs]).canLay0 = true ∧ SeqAt.shaped (.tuple [.str "told", stsD xs]) = true := by
  obtain ⟨h1, h2⟩ := lay_sts h
  have lw : ∀ c ∈ ("told" : Str).cps.toList, c < 128 := by decide +kernel
  have l1 := low_ok lw
  have c : (PyData.tuple [.str "told", stsD xs]).canLay0 = true := by
    unfold stsD
    simp only [PyData.canLay0, PyData.canLayAll0, l1, h1, Bool.and_self]
  refine ⟨c, ?_⟩
  unfold SeqAt.shaped
  rw [c, Bool.true_and]
  refine decide_eq_true ?_
  unfold stsD
  simp only [PyData.depth, PyData.depthAll]
  omega
theorem cmp6 {K : PySem.W.Frag} {CS : Addr} {x l : Addr} {ts : List (Str × Int)} {ks : List KeyE} {ss : List SvE} {m n : Nat} {xs : List StE} {G : Hp} {R : V → V → Hp → Prop} {E : XK} (hS : SchAt CS x G ts ks ss m n) (hl : G l = some (.lst (refsOf xs))) (hx : ∀ b ∈ xs, StAt G b.1 b.2 ∧ StOk b.2) (k : ∀ v1 v2 d G', Dp K G' v1 d → Dp K G' v2 d → SeqAt.shaped d = true → PyData.eqv d d = true → Same G G' → R v1 v2 G') :
    ToldP ts ss (xs.map (·.2)) G (fun v1 H1 => spMade6 CS [.ref x, .ref l] H1 (fun v2 H2 => R v1 v2 H2) E) := by
  have kx : ∀ {H1 : Hp}, Same G H1 → ∀ b ∈ xs, StAt H1 b.1 b.2 ∧ StOk b.2 := fun {H1} s b hb => ⟨(hx b hb).1.keeps fun _ _ e => s _ _ e, (hx b hb).2⟩
  refine ⟨fun hn t l1 ys H1 ey e1 e2 hy s1 => ?_, fun u v he t H1 e1 s1 => ?_⟩
  · refine ⟨x, l, ts, ks, ss, m, n, xs, rfl, hS.same s1, s1 _ _ hl, kx s1, fun _ t2 l2 zs H2 ez f1 f2 hz s2 => ?_, fun u v he => by rw [hn] at he; cases he⟩
    obtain ⟨c1, c2⟩ := lays_told (xs := ys) fun b hb => (hy b hb).2
    refine k _ _ (.tuple [.str "told", stsD ys]) H2 (.tup (.of (s2 _ _ e1)) (.cons (.str _) (.cons (sts_dp (s2 _ _ e2) fun b hb => ⟨(hy b hb).1.keeps fun _ _ e => s2 _ _ e, (hy b hb).2⟩) .nil))) ?_ c2 (PySem.SeqAt.eqv_refl _ c1) (s1.trans s2)
    rw [stsD_eq (ey.trans ez.symm)]
    exact .tup (.of f1) (.cons (.str _) (.cons (sts_dp f2 hz) .nil))
  · refine ⟨x, l, ts, ks, ss, m, n, xs, rfl, hS.same s1, s1 _ _ hl, kx s1, (fun hn => by rw [hn] at he; cases he), fun u' v' he' t2 H2 f1 s2 => ?_⟩
    rw [he] at he'
    cases he'
    obtain ⟨hu, hv⟩ := dueP_in he
    obtain ⟨c1, c2, c3⟩ := lays6 hu hv
    exact k _ _ _ H2 (.tup (.of (s2 _ _ e1)) (.cons (.str _) (.cons (.str _) (.cons (c3 _ _) .nil)))) (.tup (.of f1) (.cons (.str _) (.cons (.str _) (.cons (c3 _ _) .nil)))) c2 (PySem.SeqAt.eqv_refl _ c1) (s1.trans s2)
def spLaw (K : PySem.W.Frag) : Sp := fun vs H Q _ => ∃ (p : Addr) (ns : List Int), vs = [.ref p] ∧ SqL K H p (ns.map V.int) ∧ ns.length ≤ 63 ∧ ∀ H', Q (.bl true) H'
section
variable {P : Program} {w : World} {K : PySem.W.Frag} {mg : Str → Option Value} {base : Heap} {a : Nat → Addr} {d : Nat → FuncData}
theorem ok_law (T : Txt K mg a d) (W : TxtP K w a) : FnOk P w K mg base CX0 12 (a 78) (d 78) ["_law_script"] (spLaw K) := by
  have G66 : FnOk P w K mg base CX0 1 (a 66) (d 66) ["_law_script", "_law_k"] (spState K) := ok_state T
  have G67 : FnOk P w K mg base CX0 1 (a 67) (d 67) ["_law_state_here", "_law_many"] spPick2 := ok_pick2 T
  have G72 : FnOk P w K mg base CX0 6 (a 72) (d 72) ["_law_state_here", "_law_shapes", "_law_services"] spStep6 := ok_lstep6 T
  have G74 : FnOk P w K mg base CX0 2 (a 74) (d 74) ["_law_step_here"] spLine6 := ok_lline6 T
  have G75 : FnOk P w K mg base CX0 2 (a 75) (d 75) ["_law_state_here", "_law_steps"] spChg6 := ok_lchg6 T
  have G76 : FnOk P w K mg base CX0 9 (a 76) (d 76) ["_law_schema", "_law_steps"] (spMade6 (a 48)) := ok_made6 T W.wn
  have G77 : FnOk P w K mg base CX0 11 (a 77) (d 77) ["_law_schema", "_law_lines"] (spRead6 (a 48)) := ok_lread6 T W
  have G5800 : FnOk P w K mg base CX0 5 (a 5800) (d 5800) ["self", "tables", "keys", "services"] (spSInit (a 48)) := ok_sinit T
  have G4101 : FnOk P w K mg base CX0 2 (a 4101) (d 4101) ["self", "other"] (spPEq (a 48) (a 31)) := ok_peq T
  have G4100 : FnOk P w K mg base (L2.CX P w) 7 (a 4100) (d 4100) ["self", "schema", "steps"] (spPInit3 (a 48) (a 31) (a 5)) := ok_pinit3 T W.wn
  have G4102 : FnOk P w K mg base CX0 1 (a 4102) (d 4102) ["self"] (spStL (a 48) (a 31)) := ok_stl T
  have G64 : FnOk P w K mg base CX0 4 (a 64) (d 64) ["program"] (spPLines (a 48) (a 31)) := ok_plines T
  have G59 : FnOk P w K mg base (L2.CX P w) 9 (a 59) (d 59) ["schema", "lines"] (spReadP (a 48) (a 31) (a 5)) := ok_rdp T W
  refine T.F78.ok sc_law (fun vs H Q E h => ?_) (fun cdv A outer s H vs Q E hr h => ?_)
  · obtain ⟨p, ns, rfl, _⟩ := h
    rfl
  · obtain ⟨sp, ns, rfl, hS0, hl0, q⟩ := h
    refine ⟨_, (pss_cons (ps_set (i := 1) sc_law.nd rfl (.inl rfl) (pe_call G66 (hr.mono (by decide)) (by rfl) T.g66 T.F66.kp T.b66 .nil pass0 (pa_cons (pv 0) (pa_cons pe_int pa_nil))))
  (pss_cons (ps_set (i := 2) sc_law.nd rfl (.inl rfl) (pe_disp (pps_cons pe_str (pe_tup (pa_cons pe_str (pa_cons (pe_tup pa_nil) (pa_cons pe_int pa_nil)))) (pps_cons pe_str (pe_tup (pa_cons pe_str (pa_cons (pe_tup (pa_cons pe_int pa_nil)) (pa_cons pe_non pa_nil)))) (pps_cons pe_str (pe_tup (pa_cons pe_str (pa_cons (pe_tup (pa_cons pe_int (pa_cons pe_int pa_nil))) (pa_cons pe_non pa_nil)))) pps_nil))) (by rfl) (by rfl) (fun z => by cases z) (by decide)))
  (pss_cons (ps_set (i := 3) sc_law.nd rfl (.inl rfl) (pe_make T.M_48 G5800 (hr.mono (by decide)) (by rfl) T.cg_48 T.b5800 .nil pass0 (pa_cons (pe_disp (pps_cons pe_str pe_int (pps_cons pe_str pe_int pps_nil)) (by rfl) (by rfl) (fun z => by cases z) (by decide)) (pa_cons pe_dnewK (pa_cons (pe_callTy (T := "dict")  call_dictD (by rfl) T.z_dict (by decide +kernel) (pa_cons (pv 2) pa_nil)) pa_nil)))))
  (pss_cons (ps_set (i := 4) sc_law.nd rfl (.inl rfl) pe_dnewK)
  (pss_cons (ps_set (i := 5) sc_law.nd rfl (.inl rfl) (pe_lst pa_nil))
  (pss_cons (ps_for PassesOwn.never rfl (pi_range1 (by rfl) T.z_range (pa_cons (pe_op op_add pe_int (pe_call G67 (hr.mono (by decide)) (by rfl) T.g67 T.F67.kp T.b67 .nil pass0 (pa_cons (pv 1) (pa_cons pe_int pa_nil)))) pa_nil)) (pg_name (i := 6) sc_law.nd rfl (.inl rfl))
    (pss_one (ps_expr (pe_bm PySem.F.plainAttrs_list PySem.F.slot_list_append PySem.F.type_list_append mt_append (pv 5) (pa_cons (pe_call G72 (hr.mono (by decide)) (by rfl) T.g72 T.F72.kp T.b72 .nil pass0 (pa_cons (pe_call G66 (hr.mono (by decide)) (by rfl) T.g66 T.F66.kp T.b66 .nil pass0 (pa_cons (pv 0) (pa_cons (pe_op op_add (pv 6) pe_int) pa_nil))) (pa_cons (pv 4) (pa_cons (pv 2) pa_nil)))) pa_nil)))))
  (pss_cons (ps_set (i := 7) sc_law.nd rfl (.inl rfl) (pe_make T.M_31 G4100 (hr.mono (by decide)) (by rfl) T.cg_31 T.b4100 .nil (passN rfl) (pa_cons (pv 3) (pa_cons (pv 5) pa_nil))))
  (pss_cons (ps_setLc (i := 8) (own := [("_law_step_here", 13)]) rfl sc_law.nd rfl rfl (sw_true rfl rfl rfl (by decide +kernel)) (pi_list (pv 5)) (blkOk_by (N := ["_law_script", "_law_state_here", "_law_services", "_law_schema", "_law_shapes", "_law_steps", "_law_k", "_law_program", "_law_due", "_law_lines", "_law_handed", "_law_back", "_law_changed_here", "_law_step_here"]) (sc := defScope s_law) (by decide +kernel)) (fun _ _ _ _ _ => pg_name (i := 13) sc_law.nd rfl (.inl rfl)) (fun _ _ _ _ _ => pts_nil) (fun _ _ _ _ _ => (pe_call G74 (hr.mono (by decide)) (by rfl) T.g74 T.F74.kp T.b74 .nil pass0 (pa_cons (pv 13) pa_nil))))
  (pss_cons (ps_set (i := 9) sc_law.nd rfl (.inl rfl) (pe_call G64 (hr.mono (by decide)) (by rfl) T.g64 T.F64.kp T.b64 .nil pass0 (pa_cons (pv 7) pa_nil)))
  (pss_cons (ps_if (PW.pt (pw_or (pt_not (pt_val (pe_callB (id := "isinstance")  call_isi (by rfl) T.z_isinstance (by decide +kernel) (pa_cons (pv 9) (pa_cons (pe_bltn (v := .ty "list") (by rfl) T.z_list (by decide +kernel) rfl) pa_nil))))) (pw_or1 (pt_cmpR (op_neD (hu_of64 hr)) (pv 9) (pv 8) (nomark _)))))
    (pss_one (ps_ret pe_bl))
    pss_nil)
  (pss_cons (ps_set (i := 10) sc_law.nd rfl (.inl rfl) (pe_callTy (T := "list")  call_list_of (by rfl) T.z_list (by decide +kernel) (pa_cons (pv 8) pa_nil)))
  (pss_cons (ps_set (i := 11) sc_law.nd rfl (.inl rfl) (pe_call G59 (hr.mono (by decide)) (by rfl) T.g59 T.F59.kp T.b59 .nil (passN rfl) (pa_cons (pv 3) (pa_cons (pv 10) pa_nil))))
  (pss_cons (ps_if (PW.pt (pw_or (pt_cmpR (op_neO (E := fun _ _ _ => False) G4101 (hr.mono (by decide)) (hu_of hr) T.om_31 T.ne_31 T.m_4101.at_ T.m_4101.fn T.b4101 pass0) (pv 11) (pv 7) (nomark _)) (pw_or (pt_cmpR (op_neD (hu_of64 hr)) (pe_meth0 (pv 11) T.cl_31 T.m_4102 G4102 (hr.mono (by decide)) T.b4102 .nil pass0) (pv 5) (nomark _)) (pw_or (pt_cmpR (op_neD (hu_of64 hr)) (pv 10) (pv 8) (nomark _)) (pw_or1 (pt_cmpR (op_neD (hu_of64 hr)) (pe_call G64 (hr.mono (by decide)) (by rfl) T.g64 T.F64.kp T.b64 .nil pass0 (pa_cons (pv 11) pa_nil)) (pv 8) (nomark _)))))))
    (pss_one (ps_ret pe_bl))
    pss_nil)
  (pss_cons (ps_set (i := 12) sc_law.nd rfl (.inl rfl) (pe_call G75 (hr.mono (by decide)) (by rfl) T.g75 T.F75.kp T.b75 .nil pass0 (pa_cons (pv 1) (pa_cons (pv 5) pa_nil))))
  (pss_one (ps_ret (pe_cmpR (op_eqD (hu_of64 hr)) (pe_call G77 (hr.mono (by decide)) (by rfl) T.g77 T.F77.kp T.b77 .nil pass0 (pa_cons (pv 3) (pa_cons (pe_lc (own := [("_law_step_here", 13)]) rfl sc_law.nd (pi_list (pv 12)) (blkOk_by (N := ["_law_script", "_law_state_here", "_law_services", "_law_schema", "_law_shapes", "_law_steps", "_law_k", "_law_program", "_law_due", "_law_lines", "_law_handed", "_law_back", "_law_changed_here", "_law_step_here"]) (sc := defScope s_law) (by decide +kernel)) (fun _ _ _ _ _ => pg_name (i := 13) sc_law.nd rfl (.inl rfl)) (fun _ _ _ _ _ => pts_nil) (fun _ _ _ _ _ => (pe_call G74 (hr.mono (by decide)) (by rfl) T.g74 T.F74.kp T.b74 .nil pass0 (pa_cons (pv 13) pa_nil)))) pa_nil))) (pe_call G76 (hr.mono (by decide)) (by rfl) T.g76 T.F76.kp T.b76 .nil pass0 (pa_cons (pv 3) (pa_cons (pv 12) pa_nil))) (nomark _)))))))))))))))))), ?_⟩
    refine ⟨_, rfl, sp, ns, 0, rfl, hS0, hl0, by decide, by decide, fun p H1 np hP1 s1 => ?_⟩
    have sO : ∀ {G G' : Hp}, Same H G → Chs p G G' → Same H G' := fun sg c b o e => c.2 b o (ne_of_none e np) (sg b o e)
    -- the services
    intro dS fS
    have z0 := same_upd (o := .dK []) fS
    have eS0 : upd H1 dS (.dK []) dS = some (.dK []) := upd_same
    generalize upd H1 dS (.dK []) = G0 at z0 eS0 ⊢
    refine ⟨Nat.zero_le _, fun g1 f1 => ⟨by show 3 ≤ sizeLine; decide, fun t1 h1 => ⟨by show 1 ≤ sizeLine; decide, fun g2 f2 => ⟨by show 3 ≤ sizeLine; decide, fun t2 h2 => ⟨by show 2 ≤ sizeLine; decide, fun g3 f3 => ⟨by show 3 ≤ sizeLine; decide, fun t3 h3 => ?_⟩⟩⟩⟩⟩⟩
    have y1 := same_upd (o := .tup []) f1
    have y2 := same_upd (o := .tup [.str "b", .ref g1, .int 1]) h1
    have y3 := same_upd (o := .tup [.int 1]) f2
    have y4 := same_upd (o := .tup [.str "aa", .ref g2, .non]) h2
    have y5 := same_upd (o := .tup [.int 0, .int 2]) f3
    have y6 := same_upd (o := .tup [.str "b", .ref g3, .non]) h3
    have b1 := y6 _ _ (y5 _ _ (y4 _ _ (y3 _ _ (y2 _ _ (upd_same (H := G0) (a := g1) (o := .tup []))))))
    have a1 := y6 _ _ (y5 _ _ (y4 _ _ (y3 _ _ (upd_same (H := upd G0 g1 (.tup [])) (a := t1) (o := .tup [.str "b", .ref g1, .int 1])))))
    have b2 := y6 _ _ (y5 _ _ (y4 _ _ (upd_same (H := upd (upd G0 g1 (.tup [])) t1 (.tup [.str "b", .ref g1, .int 1])) (a := g2) (o := .tup [.int 1]))))
    have a2 := y6 _ _ (y5 _ _ (upd_same (H := upd (upd (upd G0 g1 (.tup [])) t1 (.tup [.str "b", .ref g1, .int 1])) g2 (.tup [.int 1])) (a := t2) (o := .tup [.str "aa", .ref g2, .non])))
    have b3 := y6 _ _ (upd_same (H := upd (upd (upd (upd G0 g1 (.tup [])) t1 (.tup [.str "b", .ref g1, .int 1])) g2 (.tup [.int 1])) t2 (.tup [.str "aa", .ref g2, .non])) (a := g3) (o := .tup [.int 0, .int 2]))
    have a3 := upd_same (H := upd (upd (upd (upd (upd G0 g1 (.tup [])) t1 (.tup [.str "b", .ref g1, .int 1])) g2 (.tup [.int 1])) t2 (.tup [.str "aa", .ref g2, .non])) g3 (.tup [.int 0, .int 2])) (a := t3) (o := .tup [.str "b", .ref g3, .non])
    have y06 := ((((y1.trans y2).trans y3).trans y4).trans y5).trans y6
    have eS1 := y06 _ _ eS0
    have z01 := z0.trans y06
    clear y1 y2 y3 y4 y5 y6 y06 eS0 z0 f1 h1 f2 h2 f3 h3
    generalize upd (upd (upd (upd (upd (upd G0 g1 (.tup [])) t1 (.tup [.str "b", .ref g1, .int 1])) g2 (.tup [.int 1])) t2 (.tup [.str "aa", .ref g2, .non])) g3 (.tup [.int 0, .int 2])) t3 (.tup [.str "b", .ref g3, .non]) = G1 at a1 b1 a2 b2 a3 b3 eS1 z01 ⊢
    refine ⟨eS1, [(Sum.inr "start", .ref t1), (Sum.inr "take", .ref t2), (Sum.inr "abcdefgh", .ref t3)], rfl, by show 3 ≤ 15; decide, ?_⟩
    have ku : ∀ b o, b ≠ dS → G1 b = some o → upd G1 dS (.dK (mergeK [] [(Sum.inr "start", .ref t1), (Sum.inr "take", .ref t2), (Sum.inr "abcdefgh", .ref t3)])) b = some o := fun b o n e => by rw [upd_ne n]; exact e
    have kt : ∀ b xs, G1 b = some (.tup xs) → upd G1 dS (.dK (mergeK [] [(Sum.inr "start", .ref t1), (Sum.inr "take", .ref t2), (Sum.inr "abcdefgh", .ref t3)])) b = some (.tup xs) := fun b xs e => ku b _ (fun h => by rw [h, eS1] at e; cases e) e
    have a1 := kt _ _ a1
    have b1 := kt _ _ b1
    have a2 := kt _ _ a2
    have b2 := kt _ _ b2
    have a3 := kt _ _ a3
    have b3 := kt _ _ b3
    have eS2 : upd G1 dS (.dK (mergeK [] [(Sum.inr "start", .ref t1), (Sum.inr "take", .ref t2), (Sum.inr "abcdefgh", .ref t3)])) dS = some (.dK (svK (ss6 t1 g1 t2 g2 t3 g3))) := upd_same
    have z02 : Same H1 (upd G1 dS (.dK (mergeK [] [(Sum.inr "start", .ref t1), (Sum.inr "take", .ref t2), (Sum.inr "abcdefgh", .ref t3)]))) := fun b o e => ku b o (ne_of_none e fS) (z01 b o e)
    clear ku kt eS1 z01
    generalize upd G1 dS (.dK (mergeK [] [(Sum.inr "start", .ref t1), (Sum.inr "take", .ref t2), (Sum.inr "abcdefgh", .ref t3)])) = G2 at a1 b1 a2 b2 a3 b3 eS2 z02 ⊢
    have hV2 := svcs6 a1 b1 a2 b2 a3 b3
    have hF2 := fix6 eS2 hV2
    -- the schema
    refine fun d1 e1 => ⟨upd_same, [(Sum.inr "b", .int 3), (Sum.inr "aa", .int 3)], rfl, by show 2 ≤ 15; decide, fun d2 e2 => ?_⟩
    have w1 : Same G2 (upd (upd G2 d1 (.dK [])) d1 (.dK (mergeK [] [(Sum.inr "b", .int 3), (Sum.inr "aa", .int 3)]))) := fun b o e => by
      rw [upd_ne (ne_of_none e e1), upd_ne (ne_of_none e e1)]
      exact e
    have u1 : upd (upd G2 d1 (.dK [])) d1 (.dK (mergeK [] [(Sum.inr "b", .int 3), (Sum.inr "aa", .int 3)])) d1 = some (.dK (tabK ts6)) := upd_same
    generalize upd (upd G2 d1 (.dK [])) d1 (.dK (mergeK [] [(Sum.inr "b", .int 3), (Sum.inr "aa", .int 3)])) = G3 at w1 u1 e2 ⊢
    have w2 := same_upd (o := .dK []) e2
    have u2 : upd G3 d2 (.dK []) d2 = some (.dK []) := upd_same
    have u1 := w2 _ _ u1
    have w12 := w1.trans w2
    generalize upd G3 d2 (.dK []) = G4 at w12 u1 u2 ⊢
    refine ⟨_, rfl, dS, _, rfl, .inl (w12 _ _ eS2), fun d3 e3 => ?_⟩
    have w3 := same_upd (o := .dK (svK (ss6 t1 g1 t2 g2 t3 g3))) e3
    have u3 : upd G4 d3 (.dK (svK (ss6 t1 g1 t2 g2 t3 g3))) d3 = some (.dK (svK (ss6 t1 g1 t2 g2 t3 g3))) := upd_same
    have u1 := w3 _ _ u1
    have u2 := w3 _ _ u2
    have w13 := w12.trans w3
    generalize upd G4 d3 (.dK (svK (ss6 t1 g1 t2 g2 t3 g3))) = G5 at w13 u1 u2 u3 ⊢
    refine fun x dx fx fdx ndx => mk_schema (.of u1) (.of (kvs := keyK []) u2) (.of u3) tabs6 keys0 (hV2.mono fun _ _ e => w13 _ _ e) (by decide) (by decide) (by decide) (by decide) fx fdx ndx fun G6 hS s6 => ?_
    have s16 := (z02.trans w13).trans s6
    have hF6 : SvFix G6 dS ts6 (ss6 t1 g1 t2 g2 t3 g3) := hF2.keep (fun b xs e => s6 _ _ (w13 _ _ e)) (s6 _ _ (w13 _ _ hF2.d))
    have hP6 := hP1.same s16
    have sH6 := s1.trans s16
    clear a1 b1 a2 b2 a3 b3 eS2 z02 w1 w2 w3 w12 w13 u1 u2 u3 s6 hF2 s16 hP1 s1 fx fdx e1 e2 e3
    have hWN : WNn ts6 (ss6 t1 g1 t2 g2 t3 g3) := by
      obtain ⟨_, _, _, _, O⟩ := id hS
      exact wnn O.hT O.hS
    generalize ss6 t1 g1 t2 g2 t3 g3 = ss at hS hF6 hV2 hWN ⊢
    clear hV2
    -- shapes and steps
    intro z fz
    have x1 := same_upd (o := .dK []) fz
    have ez : upd G6 z (.dK []) z = some (.dK []) := upd_same
    generalize upd G6 z (.dK []) = G7 at x1 ez ⊢
    refine ⟨Nat.zero_le _, fun S fS' => ?_⟩
    have x2 := same_upd (o := .lst []) fS'
    have eS : upd G7 S (.lst []) S = some (.lst []) := upd_same
    have ez := x2 _ _ ez
    have x12 := x1.trans x2
    generalize upd G7 S (.lst []) = G8 at x12 ez eS ⊢
    refine ⟨_, rfl, p, 12, rfl, hP6.same x12, by decide, by decide, fun n Hs n0 n1 C9 => ⟨_, _, rfl, rfl, _, rfl, by omega, by omega, ?_⟩⟩
    have nSz : S ≠ z := fun e => by rw [e] at eS; rw [eS] at ez; cases ez
    have fS6 : G6 S = none := same_none x1 fS'
    have nzp : z ≠ p := hP6.ne fz
    have nSp : S ≠ p := hP6.ne fS6
    have ndz : dS ≠ z := (ne_of_none hF6.d fz)
    have C68 : Chs p G6 Hs := ⟨C9.1, fun b o n e => C9.2 b o n (x12 _ _ e)⟩
    have ez := C9.at nzp ez
    have eS := C9.at nSp eS
    clear x1 x2 x12 C9
    have hSg : ∀ {G : Hp}, Chs p G6 G → SchAt (a 48) x G ts6 [] ss 2 3 := fun c => sch_chs0 hS hP6 c
    have hFg : ∀ {G : Hp}, Chs p G6 G → SvFix G dS ts6 ss := fun {G} c => hF6.keep (fun b xs e => c.at (cell_ne hP6 e (by intro _ z; cases z)) e) (c.at (cell_ne hP6 hF6.d (by intro _ z; cases z)) hF6.d)
    refine for_range (lo := 0) (n := (1 + n).toNat) (fun i σ G => ∃ (xs : List StE) (sz : Str → Option SzD) (y6 : Option V), σ = [some (.ref sp), some (.ref p), some (.ref dS), some (.ref x), some (.ref z), some (.ref S), y6, none, none, none, none, none, none, none] ∧ G S = some (.lst (refsOf xs)) ∧ xs.length = i ∧ Shp G z (xs.map fun b => b.2.name) sz ∧ SzIn sz ∧ runG ts6 ss (xs.map (·.2)) sz0 0 = .inr sz ∧ (∀ b ∈ xs, StAt G b.1 b.2 ∧ StW b.2) ∧ Chs p G6 G)
      ⟨[], sz0, none, rfl, eS, rfl, ⟨[], ez, rfl, List.nodup_nil, (fun n h => nomatch h), fun n => ⟨fun _ => rfl, fun h => nomatch h⟩⟩, (fun n t e => nomatch e), rfl, (fun b h => nomatch h), C68⟩ (fun i σ G hi hp => ?_) (fun σ G hp => ?_)
    · obtain ⟨xs, sz, y6, rfl, hGS, lx, hZ, hI, hrun, hst, hC⟩ := hp
      have hi12 : i < 12 := by omega
      have ll : (refsOf xs).length = xs.length := List.length_map ..
      refine ⟨_, rfl, .inl ⟨rfl, _, .of hGS⟩, _, rfl, _, rfl, _, _, rfl, rfl, sp, ns, _, rfl, (sO sH6 hC).seq hS0, hl0, by omega, by omega, fun pk H8 hk hPk s8 => ?_⟩
      have npk : pk ≠ S := (ne_of_none hGS hk).symm
      have npkp : pk ≠ p := hC.1.ne hk
      have hZ8 := hZ.same s8
      have hF8 : SvFix H8 dS ts6 ss := (hFg hC).keep (fun b us e => s8 _ _ e) (s8 _ _ (hFg hC).d)
      refine ⟨_, rfl, _, rfl, pk, z, dS, xs.map fun b => b.2.name, sz, ts6, ss, rfl, ndz, hPk, hZ8, hI, by rw [List.length_map]; omega, hF8, fun t st H9 h1 h2 h3 h4 h5 fr hfr => ?_⟩
      obtain ⟨kvz, hzd, _⟩ := id hZ8
      have hGS8 := s8 _ _ hGS
      have hGS9 := fr S _ npk.symm nSz hGS8
      have kt9 : ∀ b us, G b = some (.tup us) → H9 b = some (.tup us) := fun b us e => fr b _ (cell_ne hPk (s8 _ _ e) (by intro _ z; cases z)) (fun e' => by have e2 := s8 _ _ e; rw [e', hzd] at e2; cases e2) (s8 _ _ e)
      have kS : ∀ b us, H9 b = some (.tup us) → upd H9 S (.lst (refsOf xs ++ [.ref t])) b = some (.tup us) := fun b us e => by
        rw [upd_ne (fun e' => by rw [e', hGS9] at e; cases e)]
        exact e
      refine ⟨S, _, _, rfl, rfl, hGS9, small1000 (by omega), xs ++ [(t, st)], _, _, rfl, ?_, by rw [List.length_append, lx]; rfl, ?_, hI.put hWN h3, ?_, fun b hb => ?_, ?_, fun b o n e => ?_⟩
      · rw [upd_same]
        unfold refsOf
        rw [List.map_append]
        rfl
      · rw [List.map_append]
        exact h4.keep fun b o n e => by
          rw [upd_ne (fun e' => by rw [e', hGS9] at e; cases e; exact n _ rfl)]
          exact e
      · rw [List.map_append, runG_append hrun]
        show (match wrongOf ts6 ss sz st with | some u => Sum.inl (u, _) | none => runG ts6 ss [] (putS sz st.name (sizeOf sz (wOf ts6 ss st) st)) _) = _
        rw [h3]
        rfl
      · rcases List.mem_append.mp hb with hb | hb
        · exact ⟨((hst b hb).1.keeps kt9).keeps kS, (hst b hb).2⟩
        · rw [List.mem_singleton.mp hb]
          exact ⟨h1.keeps kS, h2⟩
      · obtain ⟨i1, i2, e⟩ := hC.1
        exact ⟨i1, i2, by rw [upd_ne nSp.symm]; exact fr p _ npkp.symm nzp.symm (s8 _ _ e)⟩
      · rw [upd_ne (ne_of_none e fS6)]
        have e8 := hC.2 b o n e
        exact fr b o (ne_of_none e8 hk) (ne_of_none e fz) (s8 _ _ e8)
    · obtain ⟨xs, sz, y6, rfl, hGS, lx, hZ, hI, hrun, hst, hC⟩ := hp
      have l1 : 1 ≤ xs.length := by omega
      have l12 : xs.length ≤ 12 := by omega
      have hdue : dueP ts6 ss (xs.map (·.2)) = none := by
        unfold dueP
        rw [if_pos (by rw [List.length_map]; exact ⟨l1, l12⟩), hrun]
      have hok : ∀ b ∈ xs, StOk b.2 := fun b hb => (hst b hb).2.ok
      have hw : ∀ b ∈ xs, StW b.2 := fun b hb => (hst b hb).2
      have hat : ∀ b ∈ xs, StAt G b.1 b.2 := fun b hb => (hst b hb).1
      have hSG := hSg hC
      have hPG := hC.1
      have esz : ∀ {ys : List StE}, ys.map (·.2) = xs.map (·.2) → ys.map (fun b => lineS b.2) = xs.map fun b => lineS b.2 := fun {ys} e => by
        have h : ∀ zs : List StE, zs.map (fun b => lineS b.2) = (zs.map (·.2)).map lineS := fun zs => by rw [List.map_map]; rfl
        rw [h, h, e]
      have hlow : ∀ l ∈ xs.map (fun b => lineS b.2), Low l := fun l hl => by
        obtain ⟨b, hb, rfl⟩ := List.mem_map.mp hl
        exact line_low (hw b hb)
      clear hZ hI hrun hst hS hF6 hSg hFg C68 ez eS hWN hS0 sO sH6 fz fS'
      -- the program
      refine ⟨_, rfl, _, rfl, fun y dy fy fdy ndy => mk_prog3 hSG hGS (fun b hb => ⟨hat b hb, hok b hb⟩) fy fdy ndy (fun u v e => by rw [hdue] at e; cases e) fun _ tz G10 l' hP s10 => ?_⟩
      have hat10 : ∀ b ∈ xs, StAt G10 b.1 b.2 := fun b hb => (hat b hb).keeps fun _ _ e => s10 _ _ e
      have hGS10 := s10 _ _ hGS
      have hS10 := hSG.same s10
      have hP10 := hPG.same s10
      clear hat hSG hPG hGS
      -- the lines due
      refine ⟨_, rfl, S, rfl, ⟨_, .of hGS10⟩, fun D hD => ?_⟩
      refine lc_list (K := K) (a := S) (xs := refsOf xs) (fun j G' => G' D = some (.lst (((xs.take j).map fun b => lineS b.2).map V.str)) ∧ Same G10 G') ⟨upd_same, same_upd hD⟩ (fun j G' _ hp5 => .of (hp5.2 _ _ hGS10)) (fun j v G' hx hp5 => ?_) (fun G11 hp5 => ?_)
      · obtain ⟨b, hb, rfl⟩ := map_at hx
        have hbm := List.mem_of_getElem? hb
        have lj : j < xs.length := (List.getElem?_eq_some_iff.mp hb).1
        refine ⟨rfl, _, rfl, b.1, b.2, rfl, (hat10 b hbm).keeps fun _ _ e => hp5.2 _ _ e, hw b hbm, fun G12 s12 => ?_⟩
        refine ⟨_, s12 _ _ hp5.1, ?_, ?_, fun b5 o6 eb => ?_⟩
        · rw [List.length_map, List.length_map, List.length_take]
          exact small1000 (by omega)
        · rw [map_take hb, List.map_append]
          exact upd_same
        · rw [upd_ne (ne_of_none eb hD)]
          exact s12 _ _ (hp5.2 b5 o6 eb)
      obtain ⟨eD, s11⟩ := hp5
      rw [show (refsOf xs).length = xs.length from List.length_map .., List.take_length] at eD
      have hP11 := hP.same s11
      -- the program's own lines
      refine ⟨_, rfl, y, dy, x, l', ts6, [], ss, 2, 3, xs, tz, rfl, hP11, hw, fun r12 G12 e12 s12 => ?_⟩
      have eD12 := s12 _ _ eD
      obtain ⟨dp1, sh1, eq1⟩ := strs_dp (K := K) eD12 hlow
      obtain ⟨dp2, sh2, _⟩ := strs_dp (K := K) e12 hlow
      have kll : kitB "list" "list" = some true := by decide +kernel
      refine ⟨_, rfl, _, _, _, _, _, rfl, .ty _, .base (.lst e12), kit_ty kll, _, rfl, ifF ?_⟩
      refine ⟨_, rfl, _, rfl, _, _, dp2, dp1, sh2, sh1, _, rfl, ?_⟩
      rw [eq1]
      refine ifF ?_
      have s10_12 := s11.trans s12
      have hS12 := hS10.same s10_12
      have hPc12 := hP10.same s10_12
      have hat12 : ∀ b ∈ xs, StAt G12 b.1 b.2 := fun b hb => (hat10 b hb).keeps fun _ _ e => s10_12 _ _ e
      have hGS12 := s10_12 _ _ hGS10
      have hP12 := hP11.same s12
      clear hS10 hP10 hat10 hGS10 hP11 s10_12 s11 s12 dp1 dp2 e12 eD hP
      -- read back
      refine ⟨_, rfl, D, _, rfl, .inl (.of eD12), fun u3 f3 => ?_⟩
      have z3 := same_upd (o := .lst ((xs.map fun b => lineS b.2).map V.str)) f3
      have e3 : upd G12 u3 (.lst ((xs.map fun b => lineS b.2).map V.str)) u3 = some (.lst ((xs.map fun b => lineS b.2).map V.str)) := upd_same
      generalize upd G12 u3 (.lst ((xs.map fun b => lineS b.2).map V.str)) = G13 at z3 e3 ⊢
      have elm : xs.map (fun b => lineS b.2) = (xs.map (·.2)).map lineS := by rw [List.map_map]; rfl
      refine ⟨_, rfl, _, rfl, x, u3, ts6, [], ss, 2, 3, xs.map (·.2), rfl, hS12.same z3, by rw [← elm]; exact e3, by rw [List.length_map]; omega, (fun st hst => by obtain ⟨b, hb, rfl⟩ := List.mem_map.mp hst; exact hw b hb), (fun _ yb dyb lb xb tb G14 exb hPb s14 => ?_), fun u v he => by rw [hdue] at he; cases he⟩
      have s1314 := z3.trans s14
      have hS14 := hS12.same s1314
      have hPc14 := hPc12.same s1314
      have hat14 : ∀ b ∈ xs, StAt G14 b.1 b.2 := fun b hb => (hat12 b hb).keeps fun _ _ e => s1314 _ _ e
      have hGS14 := s1314 _ _ hGS12
      have hP14 := hP12.same s1314
      have eD14 := s1314 _ _ eD12
      have e3 := s14 _ _ e3
      clear hS12 hPc12 hat12 hGS12 hP12 eD12 s1314 s14 z3 f3
      obtain ⟨_, _, _, _, O⟩ := id hS14
      have cs : (stsD xs).canLay0 = true := by
        unfold stsD
        simp only [PyData.canLay0, (lay_sts hok).1]
      refine ⟨_, rfl, _, rfl, yb, y, dyb, dy, _, _, rfl, rfl, hPb.ob, hP14.ob, yb, y, dyb, dy, x, x, lb, l', ts6, [], ss, 2, 3, ts6, [], ss, 2, 3, xb, xs, tb, tz, rfl, hPb, hP14, _, rfl, _, rfl, ?_⟩
      rw [schB_refl O.hT O.hK O.hS, stsD_eq exb, PySem.SeqAt.eqv_refl _ cs]
      refine ifF ?_
      refine ⟨_, rfl, yb, dyb, _, rfl, hPb.ob, rfl, yb, dyb, x, lb, ts6, [], ss, 2, 3, xb, tb, rfl, hPb, fun r hr1 => ?_⟩
      have zr := same_upd (o := .lst (refsOf xb)) hr1
      have er : upd G14 r (.lst (refsOf xb)) r = some (.lst (refsOf xb)) := upd_same
      generalize upd G14 r (.lst (refsOf xb)) = G15 at zr er ⊢
      have hPb15 := hPb.same zr
      have dpb := sts_dp (K := K) er hPb15.st
      rw [stsD_eq exb] at dpb
      have dpx := sts_dp (K := K) (zr _ _ hGS14) fun b hb => ⟨(hat14 b hb).keeps fun _ _ e => zr _ _ e, hok b hb⟩
      refine ⟨_, rfl, _, _, dpb, dpx, sts_shaped hok, sts_shaped hok, _, rfl, ?_⟩
      rw [PySem.SeqAt.eqv_refl _ cs]
      refine ifF ?_
      have eD15 := zr _ _ eD14
      obtain ⟨dp1, _, _⟩ := strs_dp (K := K) eD15 hlow
      obtain ⟨dp3, _, _⟩ := strs_dp (K := K) (zr _ _ e3) hlow
      refine ⟨_, rfl, _, rfl, _, _, dp3, dp1, sh1, sh1, _, rfl, ?_⟩
      rw [eq1]
      refine ifF ?_
      refine ⟨_, rfl, yb, dyb, x, lb, ts6, [], ss, 2, 3, xb, tb, rfl, hPb15, (fun b hb => ?_), fun r16 G16 e16 s16 => ?_⟩
      · have hb2 : b.2 ∈ xs.map (·.2) := by rw [← exb]; exact List.mem_map.mpr ⟨b, hb, rfl⟩
        obtain ⟨b', hb', e'⟩ := List.mem_map.mp hb2
        rw [← e']
        exact hw b' hb'
      rw [esz exb] at e16
      obtain ⟨dp1, _, _⟩ := strs_dp (K := K) (s16 _ _ eD15) hlow
      obtain ⟨dp4, _, _⟩ := strs_dp (K := K) e16 hlow
      refine ⟨_, rfl, _, _, dp4, dp1, sh1, sh1, _, rfl, ?_⟩
      rw [eq1]
      refine ifF ?_
      -- changed steps
      have s1416 := zr.trans s16
      have hat16 : ∀ b ∈ xs, StAt G16 b.1 b.2 := fun b hb => (hat14 b hb).keeps fun _ _ e => s1416 _ _ e
      refine ⟨_, rfl, _, rfl, p, S, xs, rfl, nSp, hPc14.same s1416, s1416 _ _ hGS14, l1, l12, fun l2 ys G17 e17 hsub ly n17 C17 => ?_⟩
      have hP16 := hPc14.same s1416
      have hS17 := sch_chs0 (hS14.same s1416) hP16 C17
      have hat17 : ∀ b ∈ ys, StAt G17 b.1 b.2 ∧ StOk b.2 := fun b hb => ⟨(hat16 b (hsub b hb)).keeps fun _ _ e => C17.at (cell_ne hP16 e (by intro _ z; cases z)) e, hok b (hsub b hb)⟩
      clear dp1 dp3 dp4 dpb dpx hat14 hat16 hS14 hPc14 hP14 hPb hPb15 s1416 s16 zr er e16 eD14 eD15 e3 hGS14
      refine ⟨_, rfl, _, rfl, l2, rfl, ⟨_, .of e17⟩, fun D2 hD2 => ?_⟩
      refine lc_list (K := K) (a := l2) (xs := refsOf ys) (fun j G' => G' D2 = some (.lst (((ys.take j).map fun b => lineS b.2).map V.str)) ∧ Same G17 G') ⟨upd_same, same_upd hD2⟩ (fun j G' _ hp5 => .of (hp5.2 _ _ e17)) (fun j v G' hx hp5 => ?_) (fun G18 hp5 => ?_)
      · obtain ⟨b, hb, rfl⟩ := map_at hx
        have hbm := List.mem_of_getElem? hb
        have lj : j < ys.length := (List.getElem?_eq_some_iff.mp hb).1
        refine ⟨rfl, _, rfl, b.1, b.2, rfl, (hat17 b hbm).1.keeps fun _ _ e => hp5.2 _ _ e, hw b (hsub b hbm), fun G12 s12 => ?_⟩
        refine ⟨_, s12 _ _ hp5.1, ?_, ?_, fun b5 o6 eb => ?_⟩
        · rw [List.length_map, List.length_map, List.length_take]
          exact small1000 (by omega)
        · rw [map_take hb, List.map_append]
          exact upd_same
        · rw [upd_ne (ne_of_none eb hD2)]
          exact s12 _ _ (hp5.2 b5 o6 eb)
      obtain ⟨eD2, s18⟩ := hp5
      rw [show (refsOf ys).length = ys.length from List.length_map .., List.take_length] at eD2
      have elm2 : ys.map (fun b => lineS b.2) = (ys.map (·.2)).map lineS := by rw [List.map_map]; rfl
      rw [elm2] at eD2
      refine ⟨x, D2, ts6, [], ss, 2, 3, ys.map (·.2), rfl, hS17.same s18, eD2, by rw [List.length_map]; omega, (fun st hst => by obtain ⟨b, hb, rfl⟩ := List.mem_map.mp hst; exact hw b (hsub b hb)), ?_⟩
      refine ToldP.mono (fun v H h => ⟨_, rfl, _, rfl, h⟩) (cmp6 (K := K) (E := fun _ _ _ => False) (hS17.same s18) (s18 _ _ e17) (fun b hb => ⟨(hat17 b hb).1.keeps fun _ _ e => s18 _ _ e, (hat17 b hb).2⟩) fun v1 v2 d G19 d1 d2 sd ed s19 => ?_)
      refine ⟨_, _, d1, d2, sd, sd, ?_⟩
      rw [ed]
      exact q G19
end
theorem len1 {P : List Value → Prop} (h : ∀ x0, P [x0]) : (us : List Value) → us.length = 1 → P us
  | [_], _ => h _
theorem len2 {P : List Value → Prop} (h : ∀ x0 x1, P [x0, x1]) : (us : List Value) → us.length = 2 → P us
  | [_, _], _ => h _ _
theorem len3 {P : List Value → Prop} (h : ∀ x0 x1 x2, P [x0, x1, x2]) : (us : List Value) → us.length = 3 → P us
  | [_, _, _], _ => h _ _ _
theorem len4 {P : List Value → Prop} (h : ∀ x0 x1 x2 x3, P [x0, x1, x2, x3]) : (us : List Value) → us.length = 4 → P us
  | [_, _, _, _], _ => h _ _ _ _
theorem all_mk {P : Program} {w : World} {K : PySem.W.Frag} {h : Heap} {mg : Str → Option Value} {fa : Addr} (X : K.In h) (G : h.Ns mainGlobals mg) (hfa : mg "law" = some (.ref fa))
    {f1300 : Addr} {od1300 an1300 : Option Addr} {sl1300 : Array (Option Value)} {oc1300 kV1300 dc1300 pm1300 cd1300 ct1300 : Value}
    {f1500 : Addr} {od1500 an1500 : Option Addr} {sl1500 : Array (Option Value)} {oc1500 kV1500 dc1500 pm1500 cd1500 ct1500 : Value}
    {f10 : Addr} {od10 an10 : Option Addr} {sl10 : Array (Option Value)} {oc10 kV10 dc10 pm10 cd10 ct10 : Value}
    {f11 : Addr} {od11 an11 : Option Addr} {sl11 : Array (Option Value)} {oc11 kV11 dc11 pm11 cd11 ct11 : Value}
    {f12 : Addr} {od12 an12 : Option Addr} {sl12 : Array (Option Value)} {oc12 kV12 dc12 pm12 cd12 ct12 : Value}
    {f37 : Addr} {od37 an37 : Option Addr} {sl37 : Array (Option Value)} {oc37 kV37 dc37 pm37 cd37 ct37 : Value}
    {f38 : Addr} {od38 an38 : Option Addr} {sl38 : Array (Option Value)} {oc38 kV38 dc38 pm38 cd38 ct38 : Value}
    {f39 : Addr} {od39 an39 : Option Addr} {sl39 : Array (Option Value)} {oc39 kV39 dc39 pm39 cd39 ct39 : Value}
    {f40 : Addr} {od40 an40 : Option Addr} {sl40 : Array (Option Value)} {oc40 kV40 dc40 pm40 cd40 ct40 : Value}
    {f41 : Addr} {od41 an41 : Option Addr} {sl41 : Array (Option Value)} {oc41 kV41 dc41 pm41 cd41 ct41 : Value}
    {f42 : Addr} {od42 an42 : Option Addr} {sl42 : Array (Option Value)} {oc42 kV42 dc42 pm42 cd42 ct42 : Value}
    {f43 : Addr} {od43 an43 : Option Addr} {sl43 : Array (Option Value)} {oc43 kV43 dc43 pm43 cd43 ct43 : Value}
    {f44 : Addr} {od44 an44 : Option Addr} {sl44 : Array (Option Value)} {oc44 kV44 dc44 pm44 cd44 ct44 : Value}
    {f45 : Addr} {od45 an45 : Option Addr} {sl45 : Array (Option Value)} {oc45 kV45 dc45 pm45 cd45 ct45 : Value}
    {f46 : Addr} {od46 an46 : Option Addr} {sl46 : Array (Option Value)} {oc46 kV46 dc46 pm46 cd46 ct46 : Value}
    {f47 : Addr} {od47 an47 : Option Addr} {sl47 : Array (Option Value)} {oc47 kV47 dc47 pm47 cd47 ct47 : Value}
    {f5800 : Addr} {od5800 an5800 : Option Addr} {sl5800 : Array (Option Value)} {oc5800 kV5800 dc5800 pm5800 cd5800 ct5800 : Value}
    {f5804 : Addr} {od5804 an5804 : Option Addr} {sl5804 : Array (Option Value)} {oc5804 kV5804 dc5804 pm5804 cd5804 ct5804 : Value}
    {f5806 : Addr} {od5806 an5806 : Option Addr} {sl5806 : Array (Option Value)} {oc5806 kV5806 dc5806 pm5806 cd5806 ct5806 : Value}
    {f5808 : Addr} {od5808 an5808 : Option Addr} {sl5808 : Array (Option Value)} {oc5808 kV5808 dc5808 pm5808 cd5808 ct5808 : Value}
    {f5810 : Addr} {od5810 an5810 : Option Addr} {sl5810 : Array (Option Value)} {oc5810 kV5810 dc5810 pm5810 cd5810 ct5810 : Value}
    {f20 : Addr} {od20 an20 : Option Addr} {sl20 : Array (Option Value)} {oc20 kV20 dc20 pm20 cd20 ct20 : Value}
    {f21 : Addr} {od21 an21 : Option Addr} {sl21 : Array (Option Value)} {oc21 kV21 dc21 pm21 cd21 ct21 : Value}
    {f22 : Addr} {od22 an22 : Option Addr} {sl22 : Array (Option Value)} {oc22 kV22 dc22 pm22 cd22 ct22 : Value}
    {f23 : Addr} {od23 an23 : Option Addr} {sl23 : Array (Option Value)} {oc23 kV23 dc23 pm23 cd23 ct23 : Value}
    {f24 : Addr} {od24 an24 : Option Addr} {sl24 : Array (Option Value)} {oc24 kV24 dc24 pm24 cd24 ct24 : Value}
    {f25 : Addr} {od25 an25 : Option Addr} {sl25 : Array (Option Value)} {oc25 kV25 dc25 pm25 cd25 ct25 : Value}
    {f26 : Addr} {od26 an26 : Option Addr} {sl26 : Array (Option Value)} {oc26 kV26 dc26 pm26 cd26 ct26 : Value}
    {f27 : Addr} {od27 an27 : Option Addr} {sl27 : Array (Option Value)} {oc27 kV27 dc27 pm27 cd27 ct27 : Value}
    {f28 : Addr} {od28 an28 : Option Addr} {sl28 : Array (Option Value)} {oc28 kV28 dc28 pm28 cd28 ct28 : Value}
    {f29 : Addr} {od29 an29 : Option Addr} {sl29 : Array (Option Value)} {oc29 kV29 dc29 pm29 cd29 ct29 : Value}
    {f30 : Addr} {od30 an30 : Option Addr} {sl30 : Array (Option Value)} {oc30 kV30 dc30 pm30 cd30 ct30 : Value}
    {f4100 : Addr} {od4100 an4100 : Option Addr} {sl4100 : Array (Option Value)} {oc4100 kV4100 dc4100 pm4100 cd4100 ct4100 : Value}
    {f4101 : Addr} {od4101 an4101 : Option Addr} {sl4101 : Array (Option Value)} {oc4101 kV4101 dc4101 pm4101 cd4101 ct4101 : Value}
    {f4102 : Addr} {od4102 an4102 : Option Addr} {sl4102 : Array (Option Value)} {oc4102 kV4102 dc4102 pm4102 cd4102 ct4102 : Value}
    {f1600 : Addr} {od1600 an1600 : Option Addr} {sl1600 : Array (Option Value)} {oc1600 kV1600 dc1600 pm1600 cd1600 ct1600 : Value}
    {f51 : Addr} {od51 an51 : Option Addr} {sl51 : Array (Option Value)} {oc51 kV51 dc51 pm51 cd51 ct51 : Value}
    {f52 : Addr} {od52 an52 : Option Addr} {sl52 : Array (Option Value)} {oc52 kV52 dc52 pm52 cd52 ct52 : Value}
    {f53 : Addr} {od53 an53 : Option Addr} {sl53 : Array (Option Value)} {oc53 kV53 dc53 pm53 cd53 ct53 : Value}
    {f54 : Addr} {od54 an54 : Option Addr} {sl54 : Array (Option Value)} {oc54 kV54 dc54 pm54 cd54 ct54 : Value}
    {f56 : Addr} {od56 an56 : Option Addr} {sl56 : Array (Option Value)} {oc56 kV56 dc56 pm56 cd56 ct56 : Value}
    {f57 : Addr} {od57 an57 : Option Addr} {sl57 : Array (Option Value)} {oc57 kV57 dc57 pm57 cd57 ct57 : Value}
    {f58 : Addr} {od58 an58 : Option Addr} {sl58 : Array (Option Value)} {oc58 kV58 dc58 pm58 cd58 ct58 : Value}
    {f59 : Addr} {od59 an59 : Option Addr} {sl59 : Array (Option Value)} {oc59 kV59 dc59 pm59 cd59 ct59 : Value}
    {f61 : Addr} {od61 an61 : Option Addr} {sl61 : Array (Option Value)} {oc61 kV61 dc61 pm61 cd61 ct61 : Value}
    {f62 : Addr} {od62 an62 : Option Addr} {sl62 : Array (Option Value)} {oc62 kV62 dc62 pm62 cd62 ct62 : Value}
    {f63 : Addr} {od63 an63 : Option Addr} {sl63 : Array (Option Value)} {oc63 kV63 dc63 pm63 cd63 ct63 : Value}
    {f64 : Addr} {od64 an64 : Option Addr} {sl64 : Array (Option Value)} {oc64 kV64 dc64 pm64 cd64 ct64 : Value}
    {f66 : Addr} {od66 an66 : Option Addr} {sl66 : Array (Option Value)} {oc66 kV66 dc66 pm66 cd66 ct66 : Value}
    {f67 : Addr} {od67 an67 : Option Addr} {sl67 : Array (Option Value)} {oc67 kV67 dc67 pm67 cd67 ct67 : Value}
    {f68 : Addr} {od68 an68 : Option Addr} {sl68 : Array (Option Value)} {oc68 kV68 dc68 pm68 cd68 ct68 : Value}
    {f69 : Addr} {od69 an69 : Option Addr} {sl69 : Array (Option Value)} {oc69 kV69 dc69 pm69 cd69 ct69 : Value}
    {f70 : Addr} {od70 an70 : Option Addr} {sl70 : Array (Option Value)} {oc70 kV70 dc70 pm70 cd70 ct70 : Value}
    {f71 : Addr} {od71 an71 : Option Addr} {sl71 : Array (Option Value)} {oc71 kV71 dc71 pm71 cd71 ct71 : Value}
    {f72 : Addr} {od72 an72 : Option Addr} {sl72 : Array (Option Value)} {oc72 kV72 dc72 pm72 cd72 ct72 : Value}
    {f73 : Addr} {od73 an73 : Option Addr} {sl73 : Array (Option Value)} {oc73 kV73 dc73 pm73 cd73 ct73 : Value}
    {f74 : Addr} {od74 an74 : Option Addr} {sl74 : Array (Option Value)} {oc74 kV74 dc74 pm74 cd74 ct74 : Value}
    {f75 : Addr} {od75 an75 : Option Addr} {sl75 : Array (Option Value)} {oc75 kV75 dc75 pm75 cd75 ct75 : Value}
    {f76 : Addr} {od76 an76 : Option Addr} {sl76 : Array (Option Value)} {oc76 kV76 dc76 pm76 cd76 ct76 : Value}
    {f77 : Addr} {od77 an77 : Option Addr} {sl77 : Array (Option Value)} {oc77 kV77 dc77 pm77 cd77 ct77 : Value}
    {f78 : Addr} {od78 an78 : Option Addr} {sl78 : Array (Option Value)} {oc78 kV78 dc78 pm78 cd78 ct78 : Value}
    {f2 : Addr}
    {nm_2 qn_2 : Str} {N_2 : Addr} {bs_2 : List Value} {sn_2 : List Str} {sub_2 : List Value} {ab_2 : Bool} {col_2 : Option Bool} {dd_2 : Option Addr} {m0_2 m1_2 m2_2 m3_2 m5_2 : Option Value}
    {f3 : Addr}
    {nm_3 qn_3 : Str} {N_3 : Addr} {bs_3 : List Value} {sn_3 : List Str} {sub_3 : List Value} {ab_3 : Bool} {col_3 : Option Bool} {dd_3 : Option Addr} {m0_3 m1_3 m2_3 m3_3 m5_3 : Option Value}
    {f5 : Addr}
    {nm_5 qn_5 : Str} {N_5 : Addr} {bs_5 : List Value} {sn_5 : List Str} {sub_5 : List Value} {ab_5 : Bool} {col_5 : Option Bool} {dd_5 : Option Addr} {m0_5 m1_5 m2_5 m3_5 m5_5 : Option Value}
    {f6 : Addr}
    {nm_6 qn_6 : Str} {N_6 : Addr} {bs_6 : List Value} {sn_6 : List Str} {sub_6 : List Value} {ab_6 : Bool} {col_6 : Option Bool} {dd_6 : Option Addr} {m0_6 m1_6 m2_6 m3_6 m5_6 : Option Value}
    {f48 : Addr}
    {f31 : Addr}
    {tw90018_start : Tok}
    {tw90018_call : Tok}
    {tw90018_both : Tok}
    {tw90018_pair : Tok}
    {tw90018_where : Tok}
    {tw90018_take : Tok}
    {ew90018 : Array DictEntry} {nw90018 : Nat}
    {f90018 : Addr}
    {tw90019_start : Tok}
    {tw90019_call : Tok}
    {tw90019_both : Tok}
    {tw90019_pair : Tok}
    {tw90019_where : Tok}
    {tw90019_take : Tok}
    {ew90019 : Array DictEntry} {nw90019 : Nat}
    {f90019 : Addr}
    {fq90055_start fu90055_start : Addr} {oq90055_start ou90055_start : Obj} {nq90055_start nu90055_start : Nat}
    {fq90055_call fu90055_call : Addr} {oq90055_call ou90055_call : Obj} {nq90055_call nu90055_call : Nat}
    {fq90055_both fu90055_both : Addr} {oq90055_both ou90055_both : Obj} {nq90055_both nu90055_both : Nat}
    {fq90055_pair fu90055_pair : Addr} {oq90055_pair ou90055_pair : Obj} {nq90055_pair nu90055_pair : Nat}
    {fq90055_where fu90055_where : Addr} {oq90055_where ou90055_where : Obj} {nq90055_where nu90055_where : Nat}
    {fq90055_take fu90055_take : Addr} {oq90055_take ou90055_take : Obj} {nq90055_take nu90055_take : Nat}
    {ew90055 : Array DictEntry} {nw90055 : Nat}
    {f90055 : Addr}
    (ac_2 : PySem.W.nsIn K mainGlobals "CappedError" = some (some (.ref f2)))
    (ac_3 : PySem.W.nsIn K mainGlobals "UnknownName" = some (some (.ref f3)))
    (ac_5 : PySem.W.nsIn K mainGlobals "InvalidProgram" = some (some (.ref f5)))
    (ac_6 : PySem.W.nsIn K mainGlobals "InvalidLine" = some (some (.ref f6)))
    (ac_48 : PySem.W.nsIn K mainGlobals "Schema" = some (some (.ref f48)))
    (ac_31 : PySem.W.nsIn K mainGlobals "Program" = some (some (.ref f31)))
    (ac_90018 : PySem.W.nsIn K mainGlobals "_LENGTHS" = some (some (.ref f90018)))
    (ac_90019 : PySem.W.nsIn K mainGlobals "_NAMES" = some (some (.ref f90019)))
    (ac_90055 : PySem.W.nsIn K mainGlobals "_PROGRAM_FORMS" = some (some (.ref f90055)))
    (fi_3 : PySem.W.findIn K (.ref f3) "__init__" = some (some (.ref f1300)))
    (fi_5 : PySem.W.findIn K (.ref f5) "__init__" = some (some (.ref f1500)))
    (fi_6 : PySem.W.findIn K (.ref f6) "__init__" = some (some (.ref f1600)))
    (fi_48 : PySem.W.findIn K (.ref f48) "__init__" = some (some (.ref f5800)))
    (fi_31 : PySem.W.findIn K (.ref f31) "__init__" = some (some (.ref f4100)))
    (ma_5804 : PySem.W.findIn K (.ref f48) "__eq__" = some (some (.ref f5804)))
    (ma_5806 : PySem.W.findIn K (.ref f48) "service_names" = some (some (.ref f5806)))
    (ma_5808 : PySem.W.findIn K (.ref f48) "width_of" = some (some (.ref f5808)))
    (ma_5810 : PySem.W.findIn K (.ref f48) "service_of" = some (some (.ref f5810)))
    (ma_4101 : PySem.W.findIn K (.ref f31) "__eq__" = some (some (.ref f4101)))
    (ma_4102 : PySem.W.findIn K (.ref f31) "step_list" = some (some (.ref f4102)))
    (l1300 : K.lookup f1300 = some ⟨oc1300, od1300, .func (PySem.W.fnOf "__init__" "UnknownName.__init__" (defArgs s_UnknownName___init__) (defBody s_UnknownName___init__) (defScope s_UnknownName___init__) .none kV1300 dc1300 pm1300 an1300 cd1300 ct1300), sl1300⟩) (c1300 : PySem.W.codeIn K cd1300 "UnknownName.__init__" = true) (k1300 : PySem.W.keepIn K (.ref f1300) = true)
    (l1500 : K.lookup f1500 = some ⟨oc1500, od1500, .func (PySem.W.fnOf "__init__" "InvalidProgram.__init__" (defArgs s_InvalidProgram___init__) (defBody s_InvalidProgram___init__) (defScope s_InvalidProgram___init__) .none kV1500 dc1500 pm1500 an1500 cd1500 ct1500), sl1500⟩) (c1500 : PySem.W.codeIn K cd1500 "InvalidProgram.__init__" = true) (k1500 : PySem.W.keepIn K (.ref f1500) = true)
    (a10 : PySem.W.nsIn K mainGlobals "is_plain_int" = some (some (.ref f10))) (l10 : K.lookup f10 = some ⟨oc10, od10, .func (PySem.W.fnOf "is_plain_int" "is_plain_int" (defArgs s_is_plain_int) (defBody s_is_plain_int) (defScope s_is_plain_int) .none kV10 dc10 pm10 an10 cd10 ct10), sl10⟩) (c10 : PySem.W.codeIn K cd10 "is_plain_int" = true) (k10 : PySem.W.keepIn K (.ref f10) = true)
    (a11 : PySem.W.nsIn K mainGlobals "is_word" = some (some (.ref f11))) (l11 : K.lookup f11 = some ⟨oc11, od11, .func (PySem.W.fnOf "is_word" "is_word" (defArgs s_is_word) (defBody s_is_word) (defScope s_is_word) .none kV11 dc11 pm11 an11 cd11 ct11), sl11⟩) (c11 : PySem.W.codeIn K cd11 "is_word" = true) (k11 : PySem.W.keepIn K (.ref f11) = true)
    (a12 : PySem.W.nsIn K mainGlobals "is_value" = some (some (.ref f12))) (l12 : K.lookup f12 = some ⟨oc12, od12, .func (PySem.W.fnOf "is_value" "is_value" (defArgs s_is_value) (defBody s_is_value) (defScope s_is_value) .none kV12 dc12 pm12 an12 cd12 ct12), sl12⟩) (c12 : PySem.W.codeIn K cd12 "is_value" = true) (k12 : PySem.W.keepIn K (.ref f12) = true)
    (a37 : PySem.W.nsIn K mainGlobals "_is_count" = some (some (.ref f37))) (l37 : K.lookup f37 = some ⟨oc37, od37, .func (PySem.W.fnOf "_is_count" "_is_count" (defArgs s__is_count) (defBody s__is_count) (defScope s__is_count) .none kV37 dc37 pm37 an37 cd37 ct37), sl37⟩) (c37 : PySem.W.codeIn K cd37 "_is_count" = true) (k37 : PySem.W.keepIn K (.ref f37) = true)
    (a38 : PySem.W.nsIn K mainGlobals "_is_name_in" = some (some (.ref f38))) (l38 : K.lookup f38 = some ⟨oc38, od38, .func (PySem.W.fnOf "_is_name_in" "_is_name_in" (defArgs s__is_name_in) (defBody s__is_name_in) (defScope s__is_name_in) .none kV38 dc38 pm38 an38 cd38 ct38), sl38⟩) (c38 : PySem.W.codeIn K cd38 "_is_name_in" = true) (k38 : PySem.W.keepIn K (.ref f38) = true)
    (a39 : PySem.W.nsIn K mainGlobals "_are_columns" = some (some (.ref f39))) (l39 : K.lookup f39 = some ⟨oc39, od39, .func (PySem.W.fnOf "_are_columns" "_are_columns" (defArgs s__are_columns) (defBody s__are_columns) (defScope s__are_columns) .none kV39 dc39 pm39 an39 cd39 ct39), sl39⟩) (c39 : PySem.W.codeIn K cd39 "_are_columns" = true) (k39 : PySem.W.keepIn K (.ref f39) = true)
    (a40 : PySem.W.nsIn K mainGlobals "_is_key" = some (some (.ref f40))) (l40 : K.lookup f40 = some ⟨oc40, od40, .func (PySem.W.fnOf "_is_key" "_is_key" (defArgs s__is_key) (defBody s__is_key) (defScope s__is_key) .none kV40 dc40 pm40 an40 cd40 ct40), sl40⟩) (c40 : PySem.W.codeIn K cd40 "_is_key" = true) (k40 : PySem.W.keepIn K (.ref f40) = true)
    (a41 : PySem.W.nsIn K mainGlobals "_is_service" = some (some (.ref f41))) (l41 : K.lookup f41 = some ⟨oc41, od41, .func (PySem.W.fnOf "_is_service" "_is_service" (defArgs s__is_service) (defBody s__is_service) (defScope s__is_service) .none kV41 dc41 pm41 an41 cd41 ct41), sl41⟩) (c41 : PySem.W.codeIn K cd41 "_is_service" = true) (k41 : PySem.W.keepIn K (.ref f41) = true)
    (a42 : PySem.W.nsIn K mainGlobals "_is_whole_service" = some (some (.ref f42))) (l42 : K.lookup f42 = some ⟨oc42, od42, .func (PySem.W.fnOf "_is_whole_service" "_is_whole_service" (defArgs s__is_whole_service) (defBody s__is_whole_service) (defScope s__is_whole_service) .none kV42 dc42 pm42 an42 cd42 ct42), sl42⟩) (c42 : PySem.W.codeIn K cd42 "_is_whole_service" = true) (k42 : PySem.W.keepIn K (.ref f42) = true)
    (a43 : PySem.W.nsIn K mainGlobals "_check_tables" = some (some (.ref f43))) (l43 : K.lookup f43 = some ⟨oc43, od43, .func (PySem.W.fnOf "_check_tables" "_check_tables" (defArgs s__check_tables) (defBody s__check_tables) (defScope s__check_tables) .none kV43 dc43 pm43 an43 cd43 ct43), sl43⟩) (c43 : PySem.W.codeIn K cd43 "_check_tables" = true) (k43 : PySem.W.keepIn K (.ref f43) = true)
    (a44 : PySem.W.nsIn K mainGlobals "_check_keys" = some (some (.ref f44))) (l44 : K.lookup f44 = some ⟨oc44, od44, .func (PySem.W.fnOf "_check_keys" "_check_keys" (defArgs s__check_keys) (defBody s__check_keys) (defScope s__check_keys) .none kV44 dc44 pm44 an44 cd44 ct44), sl44⟩) (c44 : PySem.W.codeIn K cd44 "_check_keys" = true) (k44 : PySem.W.keepIn K (.ref f44) = true)
    (a45 : PySem.W.nsIn K mainGlobals "_check_services" = some (some (.ref f45))) (l45 : K.lookup f45 = some ⟨oc45, od45, .func (PySem.W.fnOf "_check_services" "_check_services" (defArgs s__check_services) (defBody s__check_services) (defScope s__check_services) .none kV45 dc45 pm45 an45 cd45 ct45), sl45⟩) (c45 : PySem.W.codeIn K cd45 "_check_services" = true) (k45 : PySem.W.keepIn K (.ref f45) = true)
    (a46 : PySem.W.nsIn K mainGlobals "_check_capped" = some (some (.ref f46))) (l46 : K.lookup f46 = some ⟨oc46, od46, .func (PySem.W.fnOf "_check_capped" "_check_capped" (defArgs s__check_capped) (defBody s__check_capped) (defScope s__check_capped) .none kV46 dc46 pm46 an46 cd46 ct46), sl46⟩) (c46 : PySem.W.codeIn K cd46 "_check_capped" = true) (k46 : PySem.W.keepIn K (.ref f46) = true)
    (a47 : PySem.W.nsIn K mainGlobals "_copied" = some (some (.ref f47))) (l47 : K.lookup f47 = some ⟨oc47, od47, .func (PySem.W.fnOf "_copied" "_copied" (defArgs s__copied) (defBody s__copied) (defScope s__copied) .none kV47 dc47 pm47 an47 cd47 ct47), sl47⟩) (c47 : PySem.W.codeIn K cd47 "_copied" = true) (k47 : PySem.W.keepIn K (.ref f47) = true)
    (l5800 : K.lookup f5800 = some ⟨oc5800, od5800, .func (PySem.W.fnOf "__init__" "Schema.__init__" (defArgs s_Schema___init__) (defBody s_Schema___init__) (defScope s_Schema___init__) .none kV5800 dc5800 pm5800 an5800 cd5800 ct5800), sl5800⟩) (c5800 : PySem.W.codeIn K cd5800 "Schema.__init__" = true) (k5800 : PySem.W.keepIn K (.ref f5800) = true)
    (l5804 : K.lookup f5804 = some ⟨oc5804, od5804, .func (PySem.W.fnOf "__eq__" "Schema.__eq__" (defArgs s_Schema___eq__) (defBody s_Schema___eq__) (defScope s_Schema___eq__) .none kV5804 dc5804 pm5804 an5804 cd5804 ct5804), sl5804⟩) (c5804 : PySem.W.codeIn K cd5804 "Schema.__eq__" = true) (k5804 : PySem.W.keepIn K (.ref f5804) = true)
    (l5806 : K.lookup f5806 = some ⟨oc5806, od5806, .func (PySem.W.fnOf "service_names" "Schema.service_names" (defArgs s_Schema_service_names) (defBody s_Schema_service_names) (defScope s_Schema_service_names) .none kV5806 dc5806 pm5806 an5806 cd5806 ct5806), sl5806⟩) (c5806 : PySem.W.codeIn K cd5806 "Schema.service_names" = true) (k5806 : PySem.W.keepIn K (.ref f5806) = true)
    (l5808 : K.lookup f5808 = some ⟨oc5808, od5808, .func (PySem.W.fnOf "width_of" "Schema.width_of" (defArgs s_Schema_width_of) (defBody s_Schema_width_of) (defScope s_Schema_width_of) .none kV5808 dc5808 pm5808 an5808 cd5808 ct5808), sl5808⟩) (c5808 : PySem.W.codeIn K cd5808 "Schema.width_of" = true) (k5808 : PySem.W.keepIn K (.ref f5808) = true)
    (l5810 : K.lookup f5810 = some ⟨oc5810, od5810, .func (PySem.W.fnOf "service_of" "Schema.service_of" (defArgs s_Schema_service_of) (defBody s_Schema_service_of) (defScope s_Schema_service_of) .none kV5810 dc5810 pm5810 an5810 cd5810 ct5810), sl5810⟩) (c5810 : PySem.W.codeIn K cd5810 "Schema.service_of" = true) (k5810 : PySem.W.keepIn K (.ref f5810) = true)
    (a20 : PySem.W.nsIn K mainGlobals "items_of" = some (some (.ref f20))) (l20 : K.lookup f20 = some ⟨oc20, od20, .func (PySem.W.fnOf "items_of" "items_of" (defArgs s_items_of) (defBody s_items_of) (defScope s_items_of) .none kV20 dc20 pm20 an20 cd20 ct20), sl20⟩) (c20 : PySem.W.codeIn K cd20 "items_of" = true) (k20 : PySem.W.keepIn K (.ref f20) = true)
    (a21 : PySem.W.nsIn K mainGlobals "_is_index" = some (some (.ref f21))) (l21 : K.lookup f21 = some ⟨oc21, od21, .func (PySem.W.fnOf "_is_index" "_is_index" (defArgs s__is_index) (defBody s__is_index) (defScope s__is_index) .none kV21 dc21 pm21 an21 cd21 ct21), sl21⟩) (c21 : PySem.W.codeIn K cd21 "_is_index" = true) (k21 : PySem.W.keepIn K (.ref f21) = true)
    (a22 : PySem.W.nsIn K mainGlobals "_is_item" = some (some (.ref f22))) (l22 : K.lookup f22 = some ⟨oc22, od22, .func (PySem.W.fnOf "_is_item" "_is_item" (defArgs s__is_item) (defBody s__is_item) (defScope s__is_item) .none kV22 dc22 pm22 an22 cd22 ct22), sl22⟩) (c22 : PySem.W.codeIn K cd22 "_is_item" = true) (k22 : PySem.W.keepIn K (.ref f22) = true)
    (a23 : PySem.W.nsIn K mainGlobals "_has_length_and_names" = some (some (.ref f23))) (l23 : K.lookup f23 = some ⟨oc23, od23, .func (PySem.W.fnOf "_has_length_and_names" "_has_length_and_names" (defArgs s__has_length_and_names) (defBody s__has_length_and_names) (defScope s__has_length_and_names) .none kV23 dc23 pm23 an23 cd23 ct23), sl23⟩) (c23 : PySem.W.codeIn K cd23 "_has_length_and_names" = true) (k23 : PySem.W.keepIn K (.ref f23) = true)
    (a24 : PySem.W.nsIn K mainGlobals "_has_form" = some (some (.ref f24))) (l24 : K.lookup f24 = some ⟨oc24, od24, .func (PySem.W.fnOf "_has_form" "_has_form" (defArgs s__has_form) (defBody s__has_form) (defScope s__has_form) .none kV24 dc24 pm24 an24 cd24 ct24), sl24⟩) (c24 : PySem.W.codeIn K cd24 "_has_form" = true) (k24 : PySem.W.keepIn K (.ref f24) = true)
    (a25 : PySem.W.nsIn K mainGlobals "_used" = some (some (.ref f25))) (l25 : K.lookup f25 = some ⟨oc25, od25, .func (PySem.W.fnOf "_used" "_used" (defArgs s__used) (defBody s__used) (defScope s__used) .none kV25 dc25 pm25 an25 cd25 ct25), sl25⟩) (c25 : PySem.W.codeIn K cd25 "_used" = true) (k25 : PySem.W.keepIn K (.ref f25) = true)
    (a26 : PySem.W.nsIn K mainGlobals "_has_names" = some (some (.ref f26))) (l26 : K.lookup f26 = some ⟨oc26, od26, .func (PySem.W.fnOf "_has_names" "_has_names" (defArgs s__has_names) (defBody s__has_names) (defScope s__has_names) .none kV26 dc26 pm26 an26 cd26 ct26), sl26⟩) (c26 : PySem.W.codeIn K cd26 "_has_names" = true) (k26 : PySem.W.keepIn K (.ref f26) = true)
    (a27 : PySem.W.nsIn K mainGlobals "_has_items" = some (some (.ref f27))) (l27 : K.lookup f27 = some ⟨oc27, od27, .func (PySem.W.fnOf "_has_items" "_has_items" (defArgs s__has_items) (defBody s__has_items) (defScope s__has_items) .none kV27 dc27 pm27 an27 cd27 ct27), sl27⟩) (c27 : PySem.W.codeIn K cd27 "_has_items" = true) (k27 : PySem.W.keepIn K (.ref f27) = true)
    (a28 : PySem.W.nsIn K mainGlobals "_size" = some (some (.ref f28))) (l28 : K.lookup f28 = some ⟨oc28, od28, .func (PySem.W.fnOf "_size" "_size" (defArgs s__size) (defBody s__size) (defScope s__size) .none kV28 dc28 pm28 an28 cd28 ct28), sl28⟩) (c28 : PySem.W.codeIn K cd28 "_size" = true) (k28 : PySem.W.keepIn K (.ref f28) = true)
    (a29 : PySem.W.nsIn K mainGlobals "_joins_equal_widths" = some (some (.ref f29))) (l29 : K.lookup f29 = some ⟨oc29, od29, .func (PySem.W.fnOf "_joins_equal_widths" "_joins_equal_widths" (defArgs s__joins_equal_widths) (defBody s__joins_equal_widths) (defScope s__joins_equal_widths) .none kV29 dc29 pm29 an29 cd29 ct29), sl29⟩) (c29 : PySem.W.codeIn K cd29 "_joins_equal_widths" = true) (k29 : PySem.W.keepIn K (.ref f29) = true)
    (a30 : PySem.W.nsIn K mainGlobals "_wrong_part" = some (some (.ref f30))) (l30 : K.lookup f30 = some ⟨oc30, od30, .func (PySem.W.fnOf "_wrong_part" "_wrong_part" (defArgs s__wrong_part) (defBody s__wrong_part) (defScope s__wrong_part) .none kV30 dc30 pm30 an30 cd30 ct30), sl30⟩) (c30 : PySem.W.codeIn K cd30 "_wrong_part" = true) (k30 : PySem.W.keepIn K (.ref f30) = true)
    (l4100 : K.lookup f4100 = some ⟨oc4100, od4100, .func (PySem.W.fnOf "__init__" "Program.__init__" (defArgs s_Program___init__) (defBody s_Program___init__) (defScope s_Program___init__) .none kV4100 dc4100 pm4100 an4100 cd4100 ct4100), sl4100⟩) (c4100 : PySem.W.codeIn K cd4100 "Program.__init__" = true) (k4100 : PySem.W.keepIn K (.ref f4100) = true)
    (l4101 : K.lookup f4101 = some ⟨oc4101, od4101, .func (PySem.W.fnOf "__eq__" "Program.__eq__" (defArgs s_Program___eq__) (defBody s_Program___eq__) (defScope s_Program___eq__) .none kV4101 dc4101 pm4101 an4101 cd4101 ct4101), sl4101⟩) (c4101 : PySem.W.codeIn K cd4101 "Program.__eq__" = true) (k4101 : PySem.W.keepIn K (.ref f4101) = true)
    (l4102 : K.lookup f4102 = some ⟨oc4102, od4102, .func (PySem.W.fnOf "step_list" "Program.step_list" (defArgs s_Program_step_list) (defBody s_Program_step_list) (defScope s_Program_step_list) .none kV4102 dc4102 pm4102 an4102 cd4102 ct4102), sl4102⟩) (c4102 : PySem.W.codeIn K cd4102 "Program.step_list" = true) (k4102 : PySem.W.keepIn K (.ref f4102) = true)
    (l1600 : K.lookup f1600 = some ⟨oc1600, od1600, .func (PySem.W.fnOf "__init__" "InvalidLine.__init__" (defArgs s_InvalidLine___init__) (defBody s_InvalidLine___init__) (defScope s_InvalidLine___init__) .none kV1600 dc1600 pm1600 an1600 cd1600 ct1600), sl1600⟩) (c1600 : PySem.W.codeIn K cd1600 "InvalidLine.__init__" = true) (k1600 : PySem.W.keepIn K (.ref f1600) = true)
    (a51 : PySem.W.nsIn K mainGlobals "_name" = some (some (.ref f51))) (l51 : K.lookup f51 = some ⟨oc51, od51, .func (PySem.W.fnOf "_name" "_name" (defArgs s__name) (defBody s__name) (defScope s__name) .none kV51 dc51 pm51 an51 cd51 ct51), sl51⟩) (c51 : PySem.W.codeIn K cd51 "_name" = true) (k51 : PySem.W.keepIn K (.ref f51) = true)
    (a52 : PySem.W.nsIn K mainGlobals "_number" = some (some (.ref f52))) (l52 : K.lookup f52 = some ⟨oc52, od52, .func (PySem.W.fnOf "_number" "_number" (defArgs s__number) (defBody s__number) (defScope s__number) .none kV52 dc52 pm52 an52 cd52 ct52), sl52⟩) (c52 : PySem.W.codeIn K cd52 "_number" = true) (k52 : PySem.W.keepIn K (.ref f52) = true)
    (a53 : PySem.W.nsIn K mainGlobals "_value" = some (some (.ref f53))) (l53 : K.lookup f53 = some ⟨oc53, od53, .func (PySem.W.fnOf "_value" "_value" (defArgs s__value) (defBody s__value) (defScope s__value) .none kV53 dc53 pm53 an53 cd53 ct53), sl53⟩) (c53 : PySem.W.codeIn K cd53 "_value" = true) (k53 : PySem.W.keepIn K (.ref f53) = true)
    (a54 : PySem.W.nsIn K mainGlobals "_item" = some (some (.ref f54))) (l54 : K.lookup f54 = some ⟨oc54, od54, .func (PySem.W.fnOf "_item" "_item" (defArgs s__item) (defBody s__item) (defScope s__item) .none kV54 dc54 pm54 an54 cd54 ct54), sl54⟩) (c54 : PySem.W.codeIn K cd54 "_item" = true) (k54 : PySem.W.keepIn K (.ref f54) = true)
    (a56 : PySem.W.nsIn K mainGlobals "_read" = some (some (.ref f56))) (l56 : K.lookup f56 = some ⟨oc56, od56, .func (PySem.W.fnOf "_read" "_read" (defArgs s__read) (defBody s__read) (defScope s__read) .none kV56 dc56 pm56 an56 cd56 ct56), sl56⟩) (c56 : PySem.W.codeIn K cd56 "_read" = true) (k56 : PySem.W.keepIn K (.ref f56) = true)
    (a57 : PySem.W.nsIn K mainGlobals "_read_at" = some (some (.ref f57))) (l57 : K.lookup f57 = some ⟨oc57, od57, .func (PySem.W.fnOf "_read_at" "_read_at" (defArgs s__read_at) (defBody s__read_at) (defScope s__read_at) .none kV57 dc57 pm57 an57 cd57 ct57), sl57⟩) (c57 : PySem.W.codeIn K cd57 "_read_at" = true) (k57 : PySem.W.keepIn K (.ref f57) = true)
    (a58 : PySem.W.nsIn K mainGlobals "_step" = some (some (.ref f58))) (l58 : K.lookup f58 = some ⟨oc58, od58, .func (PySem.W.fnOf "_step" "_step" (defArgs s__step) (defBody s__step) (defScope s__step) .none kV58 dc58 pm58 an58 cd58 ct58), sl58⟩) (c58 : PySem.W.codeIn K cd58 "_step" = true) (k58 : PySem.W.keepIn K (.ref f58) = true)
    (a59 : PySem.W.nsIn K mainGlobals "read_program" = some (some (.ref f59))) (l59 : K.lookup f59 = some ⟨oc59, od59, .func (PySem.W.fnOf "read_program" "read_program" (defArgs s_read_program) (defBody s_read_program) (defScope s_read_program) .none kV59 dc59 pm59 an59 cd59 ct59), sl59⟩) (c59 : PySem.W.codeIn K cd59 "read_program" = true) (k59 : PySem.W.keepIn K (.ref f59) = true)
    (a61 : PySem.W.nsIn K mainGlobals "_line" = some (some (.ref f61))) (l61 : K.lookup f61 = some ⟨oc61, od61, .func (PySem.W.fnOf "_line" "_line" (defArgs s__line) (defBody s__line) (defScope s__line) .none kV61 dc61 pm61 an61 cd61 ct61), sl61⟩) (c61 : PySem.W.codeIn K cd61 "_line" = true) (k61 : PySem.W.keepIn K (.ref f61) = true)
    (a62 : PySem.W.nsIn K mainGlobals "_item_word" = some (some (.ref f62))) (l62 : K.lookup f62 = some ⟨oc62, od62, .func (PySem.W.fnOf "_item_word" "_item_word" (defArgs s__item_word) (defBody s__item_word) (defScope s__item_word) .none kV62 dc62 pm62 an62 cd62 ct62), sl62⟩) (c62 : PySem.W.codeIn K cd62 "_item_word" = true) (k62 : PySem.W.keepIn K (.ref f62) = true)
    (a63 : PySem.W.nsIn K mainGlobals "_step_words" = some (some (.ref f63))) (l63 : K.lookup f63 = some ⟨oc63, od63, .func (PySem.W.fnOf "_step_words" "_step_words" (defArgs s__step_words) (defBody s__step_words) (defScope s__step_words) .none kV63 dc63 pm63 an63 cd63 ct63), sl63⟩) (c63 : PySem.W.codeIn K cd63 "_step_words" = true) (k63 : PySem.W.keepIn K (.ref f63) = true)
    (a64 : PySem.W.nsIn K mainGlobals "program_lines" = some (some (.ref f64))) (l64 : K.lookup f64 = some ⟨oc64, od64, .func (PySem.W.fnOf "program_lines" "program_lines" (defArgs s_program_lines) (defBody s_program_lines) (defScope s_program_lines) .none kV64 dc64 pm64 an64 cd64 ct64), sl64⟩) (c64 : PySem.W.codeIn K cd64 "program_lines" = true) (k64 : PySem.W.keepIn K (.ref f64) = true)
    (a66 : PySem.W.nsIn K mainGlobals "_law_state" = some (some (.ref f66))) (l66 : K.lookup f66 = some ⟨oc66, od66, .func (PySem.W.fnOf "_law_state" "_law_state" (defArgs s__law_state) (defBody s__law_state) (defScope s__law_state) .none kV66 dc66 pm66 an66 cd66 ct66), sl66⟩) (c66 : PySem.W.codeIn K cd66 "_law_state" = true) (k66 : PySem.W.keepIn K (.ref f66) = true)
    (a67 : PySem.W.nsIn K mainGlobals "_law_pick" = some (some (.ref f67))) (l67 : K.lookup f67 = some ⟨oc67, od67, .func (PySem.W.fnOf "_law_pick" "_law_pick" (defArgs s__law_pick) (defBody s__law_pick) (defScope s__law_pick) .none kV67 dc67 pm67 an67 cd67 ct67), sl67⟩) (c67 : PySem.W.codeIn K cd67 "_law_pick" = true) (k67 : PySem.W.keepIn K (.ref f67) = true)
    (a68 : PySem.W.nsIn K mainGlobals "_law_word" = some (some (.ref f68))) (l68 : K.lookup f68 = some ⟨oc68, od68, .func (PySem.W.fnOf "_law_word" "_law_word" (defArgs s__law_word) (defBody s__law_word) (defScope s__law_word) .none kV68 dc68 pm68 an68 cd68 ct68), sl68⟩) (c68 : PySem.W.codeIn K cd68 "_law_word" = true) (k68 : PySem.W.keepIn K (.ref f68) = true)
    (a69 : PySem.W.nsIn K mainGlobals "_law_value" = some (some (.ref f69))) (l69 : K.lookup f69 = some ⟨oc69, od69, .func (PySem.W.fnOf "_law_value" "_law_value" (defArgs s__law_value) (defBody s__law_value) (defScope s__law_value) .none kV69 dc69 pm69 an69 cd69 ct69), sl69⟩) (c69 : PySem.W.codeIn K cd69 "_law_value" = true) (k69 : PySem.W.keepIn K (.ref f69) = true)
    (a70 : PySem.W.nsIn K mainGlobals "_law_item" = some (some (.ref f70))) (l70 : K.lookup f70 = some ⟨oc70, od70, .func (PySem.W.fnOf "_law_item" "_law_item" (defArgs s__law_item) (defBody s__law_item) (defScope s__law_item) .none kV70 dc70 pm70 an70 cd70 ct70), sl70⟩) (c70 : PySem.W.codeIn K cd70 "_law_item" = true) (k70 : PySem.W.keepIn K (.ref f70) = true)
    (a71 : PySem.W.nsIn K mainGlobals "_law_name" = some (some (.ref f71))) (l71 : K.lookup f71 = some ⟨oc71, od71, .func (PySem.W.fnOf "_law_name" "_law_name" (defArgs s__law_name) (defBody s__law_name) (defScope s__law_name) .none kV71 dc71 pm71 an71 cd71 ct71), sl71⟩) (c71 : PySem.W.codeIn K cd71 "_law_name" = true) (k71 : PySem.W.keepIn K (.ref f71) = true)
    (a72 : PySem.W.nsIn K mainGlobals "_law_step" = some (some (.ref f72))) (l72 : K.lookup f72 = some ⟨oc72, od72, .func (PySem.W.fnOf "_law_step" "_law_step" (defArgs s__law_step) (defBody s__law_step) (defScope s__law_step) .none kV72 dc72 pm72 an72 cd72 ct72), sl72⟩) (c72 : PySem.W.codeIn K cd72 "_law_step" = true) (k72 : PySem.W.keepIn K (.ref f72) = true)
    (a73 : PySem.W.nsIn K mainGlobals "_law_item_word" = some (some (.ref f73))) (l73 : K.lookup f73 = some ⟨oc73, od73, .func (PySem.W.fnOf "_law_item_word" "_law_item_word" (defArgs s__law_item_word) (defBody s__law_item_word) (defScope s__law_item_word) .none kV73 dc73 pm73 an73 cd73 ct73), sl73⟩) (c73 : PySem.W.codeIn K cd73 "_law_item_word" = true) (k73 : PySem.W.keepIn K (.ref f73) = true)
    (a74 : PySem.W.nsIn K mainGlobals "_law_line" = some (some (.ref f74))) (l74 : K.lookup f74 = some ⟨oc74, od74, .func (PySem.W.fnOf "_law_line" "_law_line" (defArgs s__law_line) (defBody s__law_line) (defScope s__law_line) .none kV74 dc74 pm74 an74 cd74 ct74), sl74⟩) (c74 : PySem.W.codeIn K cd74 "_law_line" = true) (k74 : PySem.W.keepIn K (.ref f74) = true)
    (a75 : PySem.W.nsIn K mainGlobals "_law_changed" = some (some (.ref f75))) (l75 : K.lookup f75 = some ⟨oc75, od75, .func (PySem.W.fnOf "_law_changed" "_law_changed" (defArgs s__law_changed) (defBody s__law_changed) (defScope s__law_changed) .none kV75 dc75 pm75 an75 cd75 ct75), sl75⟩) (c75 : PySem.W.codeIn K cd75 "_law_changed" = true) (k75 : PySem.W.keepIn K (.ref f75) = true)
    (a76 : PySem.W.nsIn K mainGlobals "_law_made" = some (some (.ref f76))) (l76 : K.lookup f76 = some ⟨oc76, od76, .func (PySem.W.fnOf "_law_made" "_law_made" (defArgs s__law_made) (defBody s__law_made) (defScope s__law_made) .none kV76 dc76 pm76 an76 cd76 ct76), sl76⟩) (c76 : PySem.W.codeIn K cd76 "_law_made" = true) (k76 : PySem.W.keepIn K (.ref f76) = true)
    (a77 : PySem.W.nsIn K mainGlobals "_law_read" = some (some (.ref f77))) (l77 : K.lookup f77 = some ⟨oc77, od77, .func (PySem.W.fnOf "_law_read" "_law_read" (defArgs s__law_read) (defBody s__law_read) (defScope s__law_read) .none kV77 dc77 pm77 an77 cd77 ct77), sl77⟩) (c77 : PySem.W.codeIn K cd77 "_law_read" = true) (k77 : PySem.W.keepIn K (.ref f77) = true)
    (a78 : PySem.W.nsIn K mainGlobals "law" = some (some (.ref f78))) (l78 : K.lookup f78 = some ⟨oc78, od78, .func (PySem.W.fnOf "law" "law" (defArgs s_law) (defBody s_law) (defScope s_law) .none kV78 dc78 pm78 an78 cd78 ct78), sl78⟩) (c78 : PySem.W.codeIn K cd78 "law" = true) (k78 : PySem.W.keepIn K (.ref f78) = true)
    (xl_2 : K.lookup f2 = some (excClassObj nm_2 qn_2 f2 N_2 bs_2 [.type "ValueError", .type "Exception", .type "BaseException", .type "object"] true sn_2 sub_2 ab_2 col_2 dd_2 m0_2 m1_2 m2_2 m3_2 m5_2 "ValueError.__new__"))
    (xs_2 : PySem.W.findIn K (.ref f2) "__setattr__" = some (some (.builtin "object.__setattr__")))
    (xe_2 : PySem.W.subIn K (.ref f2) (.type "BaseException") = some true)
    (xt_2 : PySem.W.typeIn K (.ref f2) = some (.type "type"))
    (xk_2 : PySem.W.keepIn K (.ref f2) = true)
    (ya_2 : PySem.W.findIn K (.ref f2) "__getattribute__" = some (some (.builtin "BaseException.__getattribute__")))
    (yg_2 : PySem.W.findIn K (.ref f2) "__getattr__" = some none)
    (yh_2 : PySem.W.hasDictIn K f2 = true)
    (za_2 : PySem.W.findIn K (.ref f2) "__class__" = some (some (.builtin "object.__class__")))
    (zn_2 : PySem.W.specialIn K (.builtin "object.__class__") "__get__" = some (some (.builtin "getset_descriptor.__get__")))
    (zt_2 : PySem.W.takesIn K (.builtin "object.__class__") = some true)
    (zm_2 : PySem.W.mroIn K f2 (.type "object") = some true)
    (xl_3 : K.lookup f3 = some (excClassObj nm_3 qn_3 f3 N_3 bs_3 [.ref f2, .type "ValueError", .type "Exception", .type "BaseException", .type "object"] true sn_3 sub_3 ab_3 col_3 dd_3 m0_3 m1_3 m2_3 m3_3 m5_3 "ValueError.__new__"))
    (xs_3 : PySem.W.findIn K (.ref f3) "__setattr__" = some (some (.builtin "object.__setattr__")))
    (xe_3 : PySem.W.subIn K (.ref f3) (.type "BaseException") = some true)
    (xt_3 : PySem.W.typeIn K (.ref f3) = some (.type "type"))
    (xk_3 : PySem.W.keepIn K (.ref f3) = true)
    (ya_3 : PySem.W.findIn K (.ref f3) "__getattribute__" = some (some (.builtin "BaseException.__getattribute__")))
    (yg_3 : PySem.W.findIn K (.ref f3) "__getattr__" = some none)
    (yh_3 : PySem.W.hasDictIn K f3 = true)
    (za_3 : PySem.W.findIn K (.ref f3) "__class__" = some (some (.builtin "object.__class__")))
    (zn_3 : PySem.W.specialIn K (.builtin "object.__class__") "__get__" = some (some (.builtin "getset_descriptor.__get__")))
    (zt_3 : PySem.W.takesIn K (.builtin "object.__class__") = some true)
    (zm_3 : PySem.W.mroIn K f3 (.type "object") = some true)
    (ty_3 : PySem.W.typeIn K (.ref f1300) = some (.type "function"))
    (na_3_name : PySem.W.findIn K (.ref f3) "name" = some none)
    (xl_5 : K.lookup f5 = some (excClassObj nm_5 qn_5 f5 N_5 bs_5 [.ref f2, .type "ValueError", .type "Exception", .type "BaseException", .type "object"] true sn_5 sub_5 ab_5 col_5 dd_5 m0_5 m1_5 m2_5 m3_5 m5_5 "ValueError.__new__"))
    (xs_5 : PySem.W.findIn K (.ref f5) "__setattr__" = some (some (.builtin "object.__setattr__")))
    (xe_5 : PySem.W.subIn K (.ref f5) (.type "BaseException") = some true)
    (xt_5 : PySem.W.typeIn K (.ref f5) = some (.type "type"))
    (xk_5 : PySem.W.keepIn K (.ref f5) = true)
    (ya_5 : PySem.W.findIn K (.ref f5) "__getattribute__" = some (some (.builtin "BaseException.__getattribute__")))
    (yg_5 : PySem.W.findIn K (.ref f5) "__getattr__" = some none)
    (yh_5 : PySem.W.hasDictIn K f5 = true)
    (za_5 : PySem.W.findIn K (.ref f5) "__class__" = some (some (.builtin "object.__class__")))
    (zn_5 : PySem.W.specialIn K (.builtin "object.__class__") "__get__" = some (some (.builtin "getset_descriptor.__get__")))
    (zt_5 : PySem.W.takesIn K (.builtin "object.__class__") = some true)
    (zm_5 : PySem.W.mroIn K f5 (.type "object") = some true)
    (ty_5 : PySem.W.typeIn K (.ref f1500) = some (.type "function"))
    (na_5_part : PySem.W.findIn K (.ref f5) "part" = some none)
    (na_5_at : PySem.W.findIn K (.ref f5) "at" = some none)
    (xl_6 : K.lookup f6 = some (excClassObj nm_6 qn_6 f6 N_6 bs_6 [.ref f2, .type "ValueError", .type "Exception", .type "BaseException", .type "object"] true sn_6 sub_6 ab_6 col_6 dd_6 m0_6 m1_6 m2_6 m3_6 m5_6 "ValueError.__new__"))
    (xs_6 : PySem.W.findIn K (.ref f6) "__setattr__" = some (some (.builtin "object.__setattr__")))
    (xe_6 : PySem.W.subIn K (.ref f6) (.type "BaseException") = some true)
    (xt_6 : PySem.W.typeIn K (.ref f6) = some (.type "type"))
    (xk_6 : PySem.W.keepIn K (.ref f6) = true)
    (ya_6 : PySem.W.findIn K (.ref f6) "__getattribute__" = some (some (.builtin "BaseException.__getattribute__")))
    (yg_6 : PySem.W.findIn K (.ref f6) "__getattr__" = some none)
    (yh_6 : PySem.W.hasDictIn K f6 = true)
    (za_6 : PySem.W.findIn K (.ref f6) "__class__" = some (some (.builtin "object.__class__")))
    (zn_6 : PySem.W.specialIn K (.builtin "object.__class__") "__get__" = some (some (.builtin "getset_descriptor.__get__")))
    (zt_6 : PySem.W.takesIn K (.builtin "object.__class__") = some true)
    (zm_6 : PySem.W.mroIn K f6 (.type "object") = some true)
    (ty_6 : PySem.W.typeIn K (.ref f1600) = some (.type "function"))
    (na_6_at : PySem.W.findIn K (.ref f6) "at" = some none)
    (pg_48 : PySem.W.plainGet K f48 Str.empty = true)
    (hd_48 : PySem.W.hasDictIn K f48 = true)
    (po_48 : PySem.W.plainOver K f48 = true)
    (sa_48 : PySem.W.findIn K (.ref f48) "__setattr__" = some (some (.builtin "object.__setattr__")))
    (mk_48 : PySem.W.makesIn K f48 = true)
    (is_5800 : PySem.W.isFn K (.ref f5800) = true)
    (kc_48 : PySem.W.keepIn K (.ref f48) = true)
    (na_48__tables : PySem.W.findIn K (.ref f48) "_tables" = some none)
    (na_48__keys : PySem.W.findIn K (.ref f48) "_keys" = some none)
    (na_48__services : PySem.W.findIn K (.ref f48) "_services" = some none)
    (pg_31 : PySem.W.plainGet K f31 Str.empty = true)
    (hd_31 : PySem.W.hasDictIn K f31 = true)
    (po_31 : PySem.W.plainOver K f31 = true)
    (sa_31 : PySem.W.findIn K (.ref f31) "__setattr__" = some (some (.builtin "object.__setattr__")))
    (mk_31 : PySem.W.makesIn K f31 = true)
    (is_4100 : PySem.W.isFn K (.ref f4100) = true)
    (kc_31 : PySem.W.keepIn K (.ref f31) = true)
    (na_31_schema : PySem.W.findIn K (.ref f31) "schema" = some none)
    (na_31_width : PySem.W.findIn K (.ref f31) "width" = some none)
    (na_31_part_count : PySem.W.findIn K (.ref f31) "part_count" = some none)
    (na_31_call_count : PySem.W.findIn K (.ref f31) "call_count" = some none)
    (na_31__steps : PySem.W.findIn K (.ref f31) "_steps" = some none)
    (wv_90018_start : PySem.W.nsIn K f90018 "start" = some (some (.int 2 tw90018_start)))
    (wv_90018_call : PySem.W.nsIn K f90018 "call" = some (some (.int 5 tw90018_call)))
    (wv_90018_both : PySem.W.nsIn K f90018 "both" = some (some (.int 4 tw90018_both)))
    (wv_90018_pair : PySem.W.nsIn K f90018 "pair" = some (some (.int 4 tw90018_pair)))
    (wv_90018_where : PySem.W.nsIn K f90018 "where" = some (some (.int 5 tw90018_where)))
    (wv_90018_take : PySem.W.nsIn K f90018 "take" = some (some (.int 4 tw90018_take)))
    (wl_90018 : K.lookup f90018 = some ⟨.type "dict", none, .dict ew90018 nw90018, #[]⟩)
    (wk_90018 : PySem.W.KeysLit w.params ew90018.toList)
    (wm_90018 : (f90018 == sysModules) = false)
    (wv_90019_start : PySem.W.nsIn K f90019 "start" = some (some (.int 1 tw90019_start)))
    (wv_90019_call : PySem.W.nsIn K f90019 "call" = some (some (.int 3 tw90019_call)))
    (wv_90019_both : PySem.W.nsIn K f90019 "both" = some (some (.int 3 tw90019_both)))
    (wv_90019_pair : PySem.W.nsIn K f90019 "pair" = some (some (.int 3 tw90019_pair)))
    (wv_90019_where : PySem.W.nsIn K f90019 "where" = some (some (.int 2 tw90019_where)))
    (wv_90019_take : PySem.W.nsIn K f90019 "take" = some (some (.int 2 tw90019_take)))
    (wl_90019 : K.lookup f90019 = some ⟨.type "dict", none, .dict ew90019 nw90019, #[]⟩)
    (wk_90019 : PySem.W.KeysLit w.params ew90019.toList)
    (wm_90019 : (f90019 == sysModules) = false)
    (wv_90055_start : PySem.W.nsIn K f90055 "start" = some (some (.ref fq90055_start)))
    (wq_90055_start : K.lookup fq90055_start = some oq90055_start)
    (wqc_90055_start : oq90055_start.cls = .type "tuple")
    (wqd_90055_start : oq90055_start.data = .seq #[.ref fu90055_start, .none] nq90055_start)
    (wu_90055_start : K.lookup fu90055_start = some ou90055_start)
    (wuc_90055_start : ou90055_start.cls = .type "tuple")
    (wud_90055_start : ou90055_start.data = .seq #[.ref f51] nu90055_start)
    (wv_90055_call : PySem.W.nsIn K f90055 "call" = some (some (.ref fq90055_call)))
    (wq_90055_call : K.lookup fq90055_call = some oq90055_call)
    (wqc_90055_call : oq90055_call.cls = .type "tuple")
    (wqd_90055_call : oq90055_call.data = .seq #[.ref fu90055_call, .ref f54] nq90055_call)
    (wu_90055_call : K.lookup fu90055_call = some ou90055_call)
    (wuc_90055_call : ou90055_call.cls = .type "tuple")
    (wud_90055_call : ou90055_call.data = .seq #[.ref f51, .ref f51, .ref f51] nu90055_call)
    (wv_90055_both : PySem.W.nsIn K f90055 "both" = some (some (.ref fq90055_both)))
    (wq_90055_both : K.lookup fq90055_both = some oq90055_both)
    (wqc_90055_both : oq90055_both.cls = .type "tuple")
    (wqd_90055_both : oq90055_both.data = .seq #[.ref fu90055_both, .none] nq90055_both)
    (wu_90055_both : K.lookup fu90055_both = some ou90055_both)
    (wuc_90055_both : ou90055_both.cls = .type "tuple")
    (wud_90055_both : ou90055_both.data = .seq #[.ref f51, .ref f51, .ref f51] nu90055_both)
    (wv_90055_pair : PySem.W.nsIn K f90055 "pair" = some (some (.ref fq90055_pair)))
    (wq_90055_pair : K.lookup fq90055_pair = some oq90055_pair)
    (wqc_90055_pair : oq90055_pair.cls = .type "tuple")
    (wqd_90055_pair : oq90055_pair.data = .seq #[.ref fu90055_pair, .none] nq90055_pair)
    (wu_90055_pair : K.lookup fu90055_pair = some ou90055_pair)
    (wuc_90055_pair : ou90055_pair.cls = .type "tuple")
    (wud_90055_pair : ou90055_pair.data = .seq #[.ref f51, .ref f51, .ref f51] nu90055_pair)
    (wv_90055_where : PySem.W.nsIn K f90055 "where" = some (some (.ref fq90055_where)))
    (wq_90055_where : K.lookup fq90055_where = some oq90055_where)
    (wqc_90055_where : oq90055_where.cls = .type "tuple")
    (wqd_90055_where : oq90055_where.data = .seq #[.ref fu90055_where, .none] nq90055_where)
    (wu_90055_where : K.lookup fu90055_where = some ou90055_where)
    (wuc_90055_where : ou90055_where.cls = .type "tuple")
    (wud_90055_where : ou90055_where.data = .seq #[.ref f51, .ref f51, .ref f52, .ref f54] nu90055_where)
    (wv_90055_take : PySem.W.nsIn K f90055 "take" = some (some (.ref fq90055_take)))
    (wq_90055_take : K.lookup fq90055_take = some oq90055_take)
    (wqc_90055_take : oq90055_take.cls = .type "tuple")
    (wqd_90055_take : oq90055_take.data = .seq #[.ref fu90055_take, .ref f54] nq90055_take)
    (wu_90055_take : K.lookup fu90055_take = some ou90055_take)
    (wuc_90055_take : ou90055_take.cls = .type "tuple")
    (wud_90055_take : ou90055_take.data = .seq #[.ref f51, .ref f51] nu90055_take)
    (wl_90055 : K.lookup f90055 = some ⟨.type "dict", none, .dict ew90055 nw90055, #[]⟩)
    (wk_90055 : PySem.W.KeysLit w.params ew90055.toList)
    (wm_90055 : (f90055 == sysModules) = false)
    (oa_48 : PySem.W.findIn K (.ref f48) "__class__" = some (some (.builtin "object.__class__")))
    (on_48 : PySem.W.specialIn K (.builtin "object.__class__") "__get__" = some (some (.builtin "getset_descriptor.__get__")))
    (ot_48 : PySem.W.takesIn K (.builtin "object.__class__") = some true)
    (om_48 : PySem.W.mroIn K f48 (.type "object") = some true)
    (oa_31 : PySem.W.findIn K (.ref f31) "__class__" = some (some (.builtin "object.__class__")))
    (on_31 : PySem.W.specialIn K (.builtin "object.__class__") "__get__" = some (some (.builtin "getset_descriptor.__get__")))
    (ot_31 : PySem.W.takesIn K (.builtin "object.__class__") = some true)
    (om_31 : PySem.W.mroIn K f31 (.type "object") = some true)
    (ne_31 : PySem.W.findIn K (.ref f31) "__ne__" = some (some (.builtin "object.__ne__")))
    (es_5_5 : PySem.W.subIn K (.ref f5) (.ref f5) = some true)
    (mi_5804 : PySem.W.isFn K (.ref f5804) = true)
    (mi_5806 : PySem.W.isFn K (.ref f5806) = true)
    (mi_5808 : PySem.W.isFn K (.ref f5808) = true)
    (mi_5810 : PySem.W.isFn K (.ref f5810) = true)
    (mi_4101 : PySem.W.isFn K (.ref f4101) = true)
    (mi_4102 : PySem.W.isFn K (.ref f4102) = true)
    (z_all : PySem.W.nsIn K mainGlobals "all" = some none)
    (z_bool : PySem.W.nsIn K mainGlobals "bool" = some none)
    (z_dict : PySem.W.nsIn K mainGlobals "dict" = some none)
    (z_enumerate : PySem.W.nsIn K mainGlobals "enumerate" = some none)
    (z_int : PySem.W.nsIn K mainGlobals "int" = some none)
    (z_isinstance : PySem.W.nsIn K mainGlobals "isinstance" = some none)
    (z_len : PySem.W.nsIn K mainGlobals "len" = some none)
    (z_list : PySem.W.nsIn K mainGlobals "list" = some none)
    (z_max : PySem.W.nsIn K mainGlobals "max" = some none)
    (z_range : PySem.W.nsIn K mainGlobals "range" = some none)
    (z_sorted : PySem.W.nsIn K mainGlobals "sorted" = some none)
    (z_str : PySem.W.nsIn K mainGlobals "str" = some none)
    (z_tuple : PySem.W.nsIn K mainGlobals "tuple" = some none)
    (z_zip : PySem.W.nsIn K mainGlobals "zip" = some none)
    {t_LONGEST_WORD : Tok} (v_LONGEST_WORD : PySem.W.nsIn K mainGlobals "LONGEST_WORD" = some (some (.int (8) t_LONGEST_WORD)))
    {t_GREATEST_VALUE : Tok} (v_GREATEST_VALUE : PySem.W.nsIn K mainGlobals "GREATEST_VALUE" = some (some (.int (999999999999999999999999999999) t_GREATEST_VALUE)))
    {t_MOST_STEPS : Tok} (v_MOST_STEPS : PySem.W.nsIn K mainGlobals "MOST_STEPS" = some (some (.int (12) t_MOST_STEPS)))
    {t_MOST_WIDTH_programs : Tok} (v_MOST_WIDTH_programs : PySem.W.nsIn K mainGlobals "MOST_WIDTH_programs" = some (some (.int (12) t_MOST_WIDTH_programs)))
    {t_MOST_PARTS : Tok} (v_MOST_PARTS : PySem.W.nsIn K mainGlobals "MOST_PARTS" = some (some (.int (16) t_MOST_PARTS)))
    {t_MOST_CALLS : Tok} (v_MOST_CALLS : PySem.W.nsIn K mainGlobals "MOST_CALLS" = some (some (.int (4) t_MOST_CALLS)))
    {t_MOST_TABLES : Tok} (v_MOST_TABLES : PySem.W.nsIn K mainGlobals "MOST_TABLES" = some (some (.int (5) t_MOST_TABLES)))
    {t_MOST_WIDTH_schemas : Tok} (v_MOST_WIDTH_schemas : PySem.W.nsIn K mainGlobals "MOST_WIDTH_schemas" = some (some (.int (4) t_MOST_WIDTH_schemas)))
    {t_MOST_SERVICES : Tok} (v_MOST_SERVICES : PySem.W.nsIn K mainGlobals "MOST_SERVICES" = some (some (.int (8) t_MOST_SERVICES)))
    {t_MOST_CAP : Tok} (v_MOST_CAP : PySem.W.nsIn K mainGlobals "MOST_CAP" = some (some (.int (4) t_MOST_CAP)))
    {t_MOST_DIGITS : Tok} (v_MOST_DIGITS : PySem.W.nsIn K mainGlobals "MOST_DIGITS" = some (some (.int (30) t_MOST_DIGITS)))
    : ∃ fd : FuncData, (∀ (s : Shared) (v : Value), BindsTo s fd ⟨[v], []⟩ [("_law_script", v)]) ∧ ∀ base : Heap, K.In base → base.Ns mainGlobals mg → FnOk P w K mg base CX0 12 fa fd ["_law_script"] (spLaw K) := by
  have e := hfa.symm.trans (PySem.W.mg_of X G a78)
  cases e
  have F1300 := fun_mk (st := s_UnknownName___init__) l1300 c1300 k1300
  have b1300 := F1300.binds (ps := ["self", "name"]) fun _ _ _ _ _ _ => len2 (fun _ _ => rfl)
  have F1500 := fun_mk (st := s_InvalidProgram___init__) l1500 c1500 k1500
  have b1500 := F1500.binds (ps := ["self", "part", "at"]) fun _ _ _ _ _ _ => len3 (fun _ _ _ => rfl)
  have F10 := fun_mk (st := s_is_plain_int) l10 c10 k10
  have b10 := F10.binds (ps := ["thing"]) fun _ _ _ _ _ _ => len1 (fun _ => rfl)
  have F11 := fun_mk (st := s_is_word) l11 c11 k11
  have b11 := F11.binds (ps := ["thing"]) fun _ _ _ _ _ _ => len1 (fun _ => rfl)
  have F12 := fun_mk (st := s_is_value) l12 c12 k12
  have b12 := F12.binds (ps := ["thing"]) fun _ _ _ _ _ _ => len1 (fun _ => rfl)
  have F37 := fun_mk (st := s__is_count) l37 c37 k37
  have b37 := F37.binds (ps := ["thing", "most"]) fun _ _ _ _ _ _ => len2 (fun _ _ => rfl)
  have F38 := fun_mk (st := s__is_name_in) l38 c38 k38
  have b38 := F38.binds (ps := ["thing", "names"]) fun _ _ _ _ _ _ => len2 (fun _ _ => rfl)
  have F39 := fun_mk (st := s__are_columns) l39 c39 k39
  have b39 := F39.binds (ps := ["thing", "width"]) fun _ _ _ _ _ _ => len2 (fun _ _ => rfl)
  have F40 := fun_mk (st := s__is_key) l40 c40 k40
  have b40 := F40.binds (ps := ["thing", "width"]) fun _ _ _ _ _ _ => len2 (fun _ _ => rfl)
  have F41 := fun_mk (st := s__is_service) l41 c41 k41
  have b41 := F41.binds (ps := ["thing", "tables"]) fun _ _ _ _ _ _ => len2 (fun _ _ => rfl)
  have F42 := fun_mk (st := s__is_whole_service) l42 c42 k42
  have b42 := F42.binds (ps := ["service", "tables", "keys"]) fun _ _ _ _ _ _ => len3 (fun _ _ _ => rfl)
  have F43 := fun_mk (st := s__check_tables) l43 c43 k43
  have b43 := F43.binds (ps := ["tables"]) fun _ _ _ _ _ _ => len1 (fun _ => rfl)
  have F44 := fun_mk (st := s__check_keys) l44 c44 k44
  have b44 := F44.binds (ps := ["keys", "tables"]) fun _ _ _ _ _ _ => len2 (fun _ _ => rfl)
  have F45 := fun_mk (st := s__check_services) l45 c45 k45
  have b45 := F45.binds (ps := ["services", "tables"]) fun _ _ _ _ _ _ => len2 (fun _ _ => rfl)
  have F46 := fun_mk (st := s__check_capped) l46 c46 k46
  have b46 := F46.binds (ps := ["services", "tables", "keys"]) fun _ _ _ _ _ _ => len3 (fun _ _ _ => rfl)
  have F47 := fun_mk (st := s__copied) l47 c47 k47
  have b47 := F47.binds (ps := ["things"]) fun _ _ _ _ _ _ => len1 (fun _ => rfl)
  have F5800 := fun_mk (st := s_Schema___init__) l5800 c5800 k5800
  have b5800 := F5800.binds (ps := ["self", "tables", "keys", "services"]) fun _ _ _ _ _ _ => len4 (fun _ _ _ _ => rfl)
  have F5804 := fun_mk (st := s_Schema___eq__) l5804 c5804 k5804
  have b5804 := F5804.binds (ps := ["self", "other"]) fun _ _ _ _ _ _ => len2 (fun _ _ => rfl)
  have F5806 := fun_mk (st := s_Schema_service_names) l5806 c5806 k5806
  have b5806 := F5806.binds (ps := ["self"]) fun _ _ _ _ _ _ => len1 (fun _ => rfl)
  have F5808 := fun_mk (st := s_Schema_width_of) l5808 c5808 k5808
  have b5808 := F5808.binds (ps := ["self", "table"]) fun _ _ _ _ _ _ => len2 (fun _ _ => rfl)
  have F5810 := fun_mk (st := s_Schema_service_of) l5810 c5810 k5810
  have b5810 := F5810.binds (ps := ["self", "name"]) fun _ _ _ _ _ _ => len2 (fun _ _ => rfl)
  have F20 := fun_mk (st := s_items_of) l20 c20 k20
  have b20 := F20.binds (ps := ["step"]) fun _ _ _ _ _ _ => len1 (fun _ => rfl)
  have F21 := fun_mk (st := s__is_index) l21 c21 k21
  have b21 := F21.binds (ps := ["thing"]) fun _ _ _ _ _ _ => len1 (fun _ => rfl)
  have F22 := fun_mk (st := s__is_item) l22 c22 k22
  have b22 := F22.binds (ps := ["thing"]) fun _ _ _ _ _ _ => len1 (fun _ => rfl)
  have F23 := fun_mk (st := s__has_length_and_names) l23 c23 k23
  have b23 := F23.binds (ps := ["step"]) fun _ _ _ _ _ _ => len1 (fun _ => rfl)
  have F24 := fun_mk (st := s__has_form) l24 c24 k24
  have b24 := F24.binds (ps := ["step"]) fun _ _ _ _ _ _ => len1 (fun _ => rfl)
  have F25 := fun_mk (st := s__used) l25 c25 k25
  have b25 := F25.binds (ps := ["step"]) fun _ _ _ _ _ _ => len1 (fun _ => rfl)
  have F26 := fun_mk (st := s__has_names) l26 c26 k26
  have b26 := F26.binds (ps := ["schema", "step", "sizes"]) fun _ _ _ _ _ _ => len3 (fun _ _ _ => rfl)
  have F27 := fun_mk (st := s__has_items) l27 c27 k27
  have b27 := F27.binds (ps := ["schema", "step", "sizes"]) fun _ _ _ _ _ _ => len3 (fun _ _ _ => rfl)
  have F28 := fun_mk (st := s__size) l28 c28 k28
  have b28 := F28.binds (ps := ["schema", "step", "sizes"]) fun _ _ _ _ _ _ => len3 (fun _ _ _ => rfl)
  have F29 := fun_mk (st := s__joins_equal_widths) l29 c29 k29
  have b29 := F29.binds (ps := ["step", "sizes"]) fun _ _ _ _ _ _ => len2 (fun _ _ => rfl)
  have F30 := fun_mk (st := s__wrong_part) l30 c30 k30
  have b30 := F30.binds (ps := ["schema", "step", "sizes"]) fun _ _ _ _ _ _ => len3 (fun _ _ _ => rfl)
  have F4100 := fun_mk (st := s_Program___init__) l4100 c4100 k4100
  have b4100 := F4100.binds (ps := ["self", "schema", "steps"]) fun _ _ _ _ _ _ => len3 (fun _ _ _ => rfl)
  have F4101 := fun_mk (st := s_Program___eq__) l4101 c4101 k4101
  have b4101 := F4101.binds (ps := ["self", "other"]) fun _ _ _ _ _ _ => len2 (fun _ _ => rfl)
  have F4102 := fun_mk (st := s_Program_step_list) l4102 c4102 k4102
  have b4102 := F4102.binds (ps := ["self"]) fun _ _ _ _ _ _ => len1 (fun _ => rfl)
  have F1600 := fun_mk (st := s_InvalidLine___init__) l1600 c1600 k1600
  have b1600 := F1600.binds (ps := ["self", "at"]) fun _ _ _ _ _ _ => len2 (fun _ _ => rfl)
  have F51 := fun_mk (st := s__name) l51 c51 k51
  have b51 := F51.binds (ps := ["text"]) fun _ _ _ _ _ _ => len1 (fun _ => rfl)
  have F52 := fun_mk (st := s__number) l52 c52 k52
  have b52 := F52.binds (ps := ["text"]) fun _ _ _ _ _ _ => len1 (fun _ => rfl)
  have F53 := fun_mk (st := s__value) l53 c53 k53
  have b53 := F53.binds (ps := ["text"]) fun _ _ _ _ _ _ => len1 (fun _ => rfl)
  have F54 := fun_mk (st := s__item) l54 c54 k54
  have b54 := F54.binds (ps := ["text"]) fun _ _ _ _ _ _ => len1 (fun _ => rfl)
  have F56 := fun_mk (st := s__read) l56 c56 k56
  have b56 := F56.binds (ps := ["form", "words"]) fun _ _ _ _ _ _ => len2 (fun _ _ => rfl)
  have F57 := fun_mk (st := s__read_at) l57 c57 k57
  have b57 := F57.binds (ps := ["at", "form", "words"]) fun _ _ _ _ _ _ => len3 (fun _ _ _ => rfl)
  have F58 := fun_mk (st := s__step) l58 c58 k58
  have b58 := F58.binds (ps := ["kind", "things"]) fun _ _ _ _ _ _ => len2 (fun _ _ => rfl)
  have F59 := fun_mk (st := s_read_program) l59 c59 k59
  have b59 := F59.binds (ps := ["schema", "lines"]) fun _ _ _ _ _ _ => len2 (fun _ _ => rfl)
  have F61 := fun_mk (st := s__line) l61 c61 k61
  have b61 := F61.binds (ps := ["words"]) fun _ _ _ _ _ _ => len1 (fun _ => rfl)
  have F62 := fun_mk (st := s__item_word) l62 c62 k62
  have b62 := F62.binds (ps := ["item"]) fun _ _ _ _ _ _ => len1 (fun _ => rfl)
  have F63 := fun_mk (st := s__step_words) l63 c63 k63
  have b63 := F63.binds (ps := ["step"]) fun _ _ _ _ _ _ => len1 (fun _ => rfl)
  have F64 := fun_mk (st := s_program_lines) l64 c64 k64
  have b64 := F64.binds (ps := ["program"]) fun _ _ _ _ _ _ => len1 (fun _ => rfl)
  have F66 := fun_mk (st := s__law_state) l66 c66 k66
  have b66 := F66.binds (ps := ["_law_script", "_law_k"]) fun _ _ _ _ _ _ => len2 (fun _ _ => rfl)
  have F67 := fun_mk (st := s__law_pick) l67 c67 k67
  have b67 := F67.binds (ps := ["_law_state_here", "_law_many"]) fun _ _ _ _ _ _ => len2 (fun _ _ => rfl)
  have F68 := fun_mk (st := s__law_word) l68 c68 k68
  have b68 := F68.binds (ps := ["_law_state_here"]) fun _ _ _ _ _ _ => len1 (fun _ => rfl)
  have F69 := fun_mk (st := s__law_value) l69 c69 k69
  have b69 := F69.binds (ps := ["_law_state_here"]) fun _ _ _ _ _ _ => len1 (fun _ => rfl)
  have F70 := fun_mk (st := s__law_item) l70 c70 k70
  have b70 := F70.binds (ps := ["_law_state_here", "_law_width"]) fun _ _ _ _ _ _ => len2 (fun _ _ => rfl)
  have F71 := fun_mk (st := s__law_name) l71 c71 k71
  have b71 := F71.binds (ps := ["_law_state_here", "_law_shapes"]) fun _ _ _ _ _ _ => len2 (fun _ _ => rfl)
  have F72 := fun_mk (st := s__law_step) l72 c72 k72
  have b72 := F72.binds (ps := ["_law_state_here", "_law_shapes", "_law_services"]) fun _ _ _ _ _ _ => len3 (fun _ _ _ => rfl)
  have F73 := fun_mk (st := s__law_item_word) l73 c73 k73
  have b73 := F73.binds (ps := ["_law_item_here"]) fun _ _ _ _ _ _ => len1 (fun _ => rfl)
  have F74 := fun_mk (st := s__law_line) l74 c74 k74
  have b74 := F74.binds (ps := ["_law_step_here"]) fun _ _ _ _ _ _ => len1 (fun _ => rfl)
  have F75 := fun_mk (st := s__law_changed) l75 c75 k75
  have b75 := F75.binds (ps := ["_law_state_here", "_law_steps"]) fun _ _ _ _ _ _ => len2 (fun _ _ => rfl)
  have F76 := fun_mk (st := s__law_made) l76 c76 k76
  have b76 := F76.binds (ps := ["_law_schema", "_law_steps"]) fun _ _ _ _ _ _ => len2 (fun _ _ => rfl)
  have F77 := fun_mk (st := s__law_read) l77 c77 k77
  have b77 := F77.binds (ps := ["_law_schema", "_law_lines"]) fun _ _ _ _ _ _ => len2 (fun _ _ => rfl)
  have F78 := fun_mk (st := s_law) l78 c78 k78
  have b78 := F78.binds (ps := ["_law_script"]) fun _ _ _ _ _ _ => len1 (fun _ => rfl)
  let aa : Nat → Addr := fun i => match i with
    | 2 => f2
    | 3 => f3
    | 5 => f5
    | 6 => f6
    | 10 => f10
    | 11 => f11
    | 12 => f12
    | 20 => f20
    | 21 => f21
    | 22 => f22
    | 23 => f23
    | 24 => f24
    | 25 => f25
    | 26 => f26
    | 27 => f27
    | 28 => f28
    | 29 => f29
    | 30 => f30
    | 31 => f31
    | 37 => f37
    | 38 => f38
    | 39 => f39
    | 40 => f40
    | 41 => f41
    | 42 => f42
    | 43 => f43
    | 44 => f44
    | 45 => f45
    | 46 => f46
    | 47 => f47
    | 48 => f48
    | 51 => f51
    | 52 => f52
    | 53 => f53
    | 54 => f54
    | 56 => f56
    | 57 => f57
    | 58 => f58
    | 59 => f59
    | 61 => f61
    | 62 => f62
    | 63 => f63
    | 64 => f64
    | 66 => f66
    | 67 => f67
    | 68 => f68
    | 69 => f69
    | 70 => f70
    | 71 => f71
    | 72 => f72
    | 73 => f73
    | 74 => f74
    | 75 => f75
    | 76 => f76
    | 77 => f77
    | 78 => fa
    | 1300 => f1300
    | 1500 => f1500
    | 1600 => f1600
    | 4100 => f4100
    | 4101 => f4101
    | 4102 => f4102
    | 5800 => f5800
    | 5804 => f5804
    | 5806 => f5806
    | 5808 => f5808
    | 5810 => f5810
    | 90018 => f90018
    | 90019 => f90019
    | 90055 => f90055
    | _ => 0
  let dd : Nat → FuncData := fun i => match i with
    | 10 => PySem.W.fnOf "is_plain_int" "is_plain_int" (defArgs s_is_plain_int) (defBody s_is_plain_int) (defScope s_is_plain_int) .none kV10 dc10 pm10 an10 cd10 ct10
    | 11 => PySem.W.fnOf "is_word" "is_word" (defArgs s_is_word) (defBody s_is_word) (defScope s_is_word) .none kV11 dc11 pm11 an11 cd11 ct11
    | 12 => PySem.W.fnOf "is_value" "is_value" (defArgs s_is_value) (defBody s_is_value) (defScope s_is_value) .none kV12 dc12 pm12 an12 cd12 ct12
    | 20 => PySem.W.fnOf "items_of" "items_of" (defArgs s_items_of) (defBody s_items_of) (defScope s_items_of) .none kV20 dc20 pm20 an20 cd20 ct20
    | 21 => PySem.W.fnOf "_is_index" "_is_index" (defArgs s__is_index) (defBody s__is_index) (defScope s__is_index) .none kV21 dc21 pm21 an21 cd21 ct21
    | 22 => PySem.W.fnOf "_is_item" "_is_item" (defArgs s__is_item) (defBody s__is_item) (defScope s__is_item) .none kV22 dc22 pm22 an22 cd22 ct22
    | 23 => PySem.W.fnOf "_has_length_and_names" "_has_length_and_names" (defArgs s__has_length_and_names) (defBody s__has_length_and_names) (defScope s__has_length_and_names) .none kV23 dc23 pm23 an23 cd23 ct23
    | 24 => PySem.W.fnOf "_has_form" "_has_form" (defArgs s__has_form) (defBody s__has_form) (defScope s__has_form) .none kV24 dc24 pm24 an24 cd24 ct24
    | 25 => PySem.W.fnOf "_used" "_used" (defArgs s__used) (defBody s__used) (defScope s__used) .none kV25 dc25 pm25 an25 cd25 ct25
    | 26 => PySem.W.fnOf "_has_names" "_has_names" (defArgs s__has_names) (defBody s__has_names) (defScope s__has_names) .none kV26 dc26 pm26 an26 cd26 ct26
    | 27 => PySem.W.fnOf "_has_items" "_has_items" (defArgs s__has_items) (defBody s__has_items) (defScope s__has_items) .none kV27 dc27 pm27 an27 cd27 ct27
    | 28 => PySem.W.fnOf "_size" "_size" (defArgs s__size) (defBody s__size) (defScope s__size) .none kV28 dc28 pm28 an28 cd28 ct28
    | 29 => PySem.W.fnOf "_joins_equal_widths" "_joins_equal_widths" (defArgs s__joins_equal_widths) (defBody s__joins_equal_widths) (defScope s__joins_equal_widths) .none kV29 dc29 pm29 an29 cd29 ct29
    | 30 => PySem.W.fnOf "_wrong_part" "_wrong_part" (defArgs s__wrong_part) (defBody s__wrong_part) (defScope s__wrong_part) .none kV30 dc30 pm30 an30 cd30 ct30
    | 37 => PySem.W.fnOf "_is_count" "_is_count" (defArgs s__is_count) (defBody s__is_count) (defScope s__is_count) .none kV37 dc37 pm37 an37 cd37 ct37
    | 38 => PySem.W.fnOf "_is_name_in" "_is_name_in" (defArgs s__is_name_in) (defBody s__is_name_in) (defScope s__is_name_in) .none kV38 dc38 pm38 an38 cd38 ct38
    | 39 => PySem.W.fnOf "_are_columns" "_are_columns" (defArgs s__are_columns) (defBody s__are_columns) (defScope s__are_columns) .none kV39 dc39 pm39 an39 cd39 ct39
    | 40 => PySem.W.fnOf "_is_key" "_is_key" (defArgs s__is_key) (defBody s__is_key) (defScope s__is_key) .none kV40 dc40 pm40 an40 cd40 ct40
    | 41 => PySem.W.fnOf "_is_service" "_is_service" (defArgs s__is_service) (defBody s__is_service) (defScope s__is_service) .none kV41 dc41 pm41 an41 cd41 ct41
    | 42 => PySem.W.fnOf "_is_whole_service" "_is_whole_service" (defArgs s__is_whole_service) (defBody s__is_whole_service) (defScope s__is_whole_service) .none kV42 dc42 pm42 an42 cd42 ct42
    | 43 => PySem.W.fnOf "_check_tables" "_check_tables" (defArgs s__check_tables) (defBody s__check_tables) (defScope s__check_tables) .none kV43 dc43 pm43 an43 cd43 ct43
    | 44 => PySem.W.fnOf "_check_keys" "_check_keys" (defArgs s__check_keys) (defBody s__check_keys) (defScope s__check_keys) .none kV44 dc44 pm44 an44 cd44 ct44
    | 45 => PySem.W.fnOf "_check_services" "_check_services" (defArgs s__check_services) (defBody s__check_services) (defScope s__check_services) .none kV45 dc45 pm45 an45 cd45 ct45
    | 46 => PySem.W.fnOf "_check_capped" "_check_capped" (defArgs s__check_capped) (defBody s__check_capped) (defScope s__check_capped) .none kV46 dc46 pm46 an46 cd46 ct46
    | 47 => PySem.W.fnOf "_copied" "_copied" (defArgs s__copied) (defBody s__copied) (defScope s__copied) .none kV47 dc47 pm47 an47 cd47 ct47
    | 51 => PySem.W.fnOf "_name" "_name" (defArgs s__name) (defBody s__name) (defScope s__name) .none kV51 dc51 pm51 an51 cd51 ct51
    | 52 => PySem.W.fnOf "_number" "_number" (defArgs s__number) (defBody s__number) (defScope s__number) .none kV52 dc52 pm52 an52 cd52 ct52
    | 53 => PySem.W.fnOf "_value" "_value" (defArgs s__value) (defBody s__value) (defScope s__value) .none kV53 dc53 pm53 an53 cd53 ct53
    | 54 => PySem.W.fnOf "_item" "_item" (defArgs s__item) (defBody s__item) (defScope s__item) .none kV54 dc54 pm54 an54 cd54 ct54
    | 56 => PySem.W.fnOf "_read" "_read" (defArgs s__read) (defBody s__read) (defScope s__read) .none kV56 dc56 pm56 an56 cd56 ct56
    | 57 => PySem.W.fnOf "_read_at" "_read_at" (defArgs s__read_at) (defBody s__read_at) (defScope s__read_at) .none kV57 dc57 pm57 an57 cd57 ct57
    | 58 => PySem.W.fnOf "_step" "_step" (defArgs s__step) (defBody s__step) (defScope s__step) .none kV58 dc58 pm58 an58 cd58 ct58
    | 59 => PySem.W.fnOf "read_program" "read_program" (defArgs s_read_program) (defBody s_read_program) (defScope s_read_program) .none kV59 dc59 pm59 an59 cd59 ct59
    | 61 => PySem.W.fnOf "_line" "_line" (defArgs s__line) (defBody s__line) (defScope s__line) .none kV61 dc61 pm61 an61 cd61 ct61
    | 62 => PySem.W.fnOf "_item_word" "_item_word" (defArgs s__item_word) (defBody s__item_word) (defScope s__item_word) .none kV62 dc62 pm62 an62 cd62 ct62
    | 63 => PySem.W.fnOf "_step_words" "_step_words" (defArgs s__step_words) (defBody s__step_words) (defScope s__step_words) .none kV63 dc63 pm63 an63 cd63 ct63
    | 64 => PySem.W.fnOf "program_lines" "program_lines" (defArgs s_program_lines) (defBody s_program_lines) (defScope s_program_lines) .none kV64 dc64 pm64 an64 cd64 ct64
    | 66 => PySem.W.fnOf "_law_state" "_law_state" (defArgs s__law_state) (defBody s__law_state) (defScope s__law_state) .none kV66 dc66 pm66 an66 cd66 ct66
    | 67 => PySem.W.fnOf "_law_pick" "_law_pick" (defArgs s__law_pick) (defBody s__law_pick) (defScope s__law_pick) .none kV67 dc67 pm67 an67 cd67 ct67
    | 68 => PySem.W.fnOf "_law_word" "_law_word" (defArgs s__law_word) (defBody s__law_word) (defScope s__law_word) .none kV68 dc68 pm68 an68 cd68 ct68
    | 69 => PySem.W.fnOf "_law_value" "_law_value" (defArgs s__law_value) (defBody s__law_value) (defScope s__law_value) .none kV69 dc69 pm69 an69 cd69 ct69
    | 70 => PySem.W.fnOf "_law_item" "_law_item" (defArgs s__law_item) (defBody s__law_item) (defScope s__law_item) .none kV70 dc70 pm70 an70 cd70 ct70
    | 71 => PySem.W.fnOf "_law_name" "_law_name" (defArgs s__law_name) (defBody s__law_name) (defScope s__law_name) .none kV71 dc71 pm71 an71 cd71 ct71
    | 72 => PySem.W.fnOf "_law_step" "_law_step" (defArgs s__law_step) (defBody s__law_step) (defScope s__law_step) .none kV72 dc72 pm72 an72 cd72 ct72
    | 73 => PySem.W.fnOf "_law_item_word" "_law_item_word" (defArgs s__law_item_word) (defBody s__law_item_word) (defScope s__law_item_word) .none kV73 dc73 pm73 an73 cd73 ct73
    | 74 => PySem.W.fnOf "_law_line" "_law_line" (defArgs s__law_line) (defBody s__law_line) (defScope s__law_line) .none kV74 dc74 pm74 an74 cd74 ct74
    | 75 => PySem.W.fnOf "_law_changed" "_law_changed" (defArgs s__law_changed) (defBody s__law_changed) (defScope s__law_changed) .none kV75 dc75 pm75 an75 cd75 ct75
    | 76 => PySem.W.fnOf "_law_made" "_law_made" (defArgs s__law_made) (defBody s__law_made) (defScope s__law_made) .none kV76 dc76 pm76 an76 cd76 ct76
    | 77 => PySem.W.fnOf "_law_read" "_law_read" (defArgs s__law_read) (defBody s__law_read) (defScope s__law_read) .none kV77 dc77 pm77 an77 cd77 ct77
    | 78 => PySem.W.fnOf "law" "law" (defArgs s_law) (defBody s_law) (defScope s_law) .none kV78 dc78 pm78 an78 cd78 ct78
    | 1300 => PySem.W.fnOf "__init__" "UnknownName.__init__" (defArgs s_UnknownName___init__) (defBody s_UnknownName___init__) (defScope s_UnknownName___init__) .none kV1300 dc1300 pm1300 an1300 cd1300 ct1300
    | 1500 => PySem.W.fnOf "__init__" "InvalidProgram.__init__" (defArgs s_InvalidProgram___init__) (defBody s_InvalidProgram___init__) (defScope s_InvalidProgram___init__) .none kV1500 dc1500 pm1500 an1500 cd1500 ct1500
    | 1600 => PySem.W.fnOf "__init__" "InvalidLine.__init__" (defArgs s_InvalidLine___init__) (defBody s_InvalidLine___init__) (defScope s_InvalidLine___init__) .none kV1600 dc1600 pm1600 an1600 cd1600 ct1600
    | 4100 => PySem.W.fnOf "__init__" "Program.__init__" (defArgs s_Program___init__) (defBody s_Program___init__) (defScope s_Program___init__) .none kV4100 dc4100 pm4100 an4100 cd4100 ct4100
    | 4101 => PySem.W.fnOf "__eq__" "Program.__eq__" (defArgs s_Program___eq__) (defBody s_Program___eq__) (defScope s_Program___eq__) .none kV4101 dc4101 pm4101 an4101 cd4101 ct4101
    | 4102 => PySem.W.fnOf "step_list" "Program.step_list" (defArgs s_Program_step_list) (defBody s_Program_step_list) (defScope s_Program_step_list) .none kV4102 dc4102 pm4102 an4102 cd4102 ct4102
    | 5800 => PySem.W.fnOf "__init__" "Schema.__init__" (defArgs s_Schema___init__) (defBody s_Schema___init__) (defScope s_Schema___init__) .none kV5800 dc5800 pm5800 an5800 cd5800 ct5800
    | 5804 => PySem.W.fnOf "__eq__" "Schema.__eq__" (defArgs s_Schema___eq__) (defBody s_Schema___eq__) (defScope s_Schema___eq__) .none kV5804 dc5804 pm5804 an5804 cd5804 ct5804
    | 5806 => PySem.W.fnOf "service_names" "Schema.service_names" (defArgs s_Schema_service_names) (defBody s_Schema_service_names) (defScope s_Schema_service_names) .none kV5806 dc5806 pm5806 an5806 cd5806 ct5806
    | 5808 => PySem.W.fnOf "width_of" "Schema.width_of" (defArgs s_Schema_width_of) (defBody s_Schema_width_of) (defScope s_Schema_width_of) .none kV5808 dc5808 pm5808 an5808 cd5808 ct5808
    | 5810 => PySem.W.fnOf "service_of" "Schema.service_of" (defArgs s_Schema_service_of) (defBody s_Schema_service_of) (defScope s_Schema_service_of) .none kV5810 dc5810 pm5810 an5810 cd5810 ct5810
    | _ => PySem.W.fnOf "law" "law" (defArgs s_law) (defBody s_law) (defScope s_law) .none kV78 dc78 pm78 an78 cd78 ct78
  have T : Txt K mg aa dd := { F1300 := F1300, b1300 := b1300, F1500 := F1500, b1500 := b1500, F10 := F10, b10 := b10, g10 := PySem.W.mg_of X G a10, F11 := F11, b11 := b11, g11 := PySem.W.mg_of X G a11, F12 := F12, b12 := b12, g12 := PySem.W.mg_of X G a12, F37 := F37, b37 := b37, g37 := PySem.W.mg_of X G a37, F38 := F38, b38 := b38, g38 := PySem.W.mg_of X G a38, F39 := F39, b39 := b39, g39 := PySem.W.mg_of X G a39, F40 := F40, b40 := b40, g40 := PySem.W.mg_of X G a40, F41 := F41, b41 := b41, g41 := PySem.W.mg_of X G a41, F42 := F42, b42 := b42, g42 := PySem.W.mg_of X G a42, F43 := F43, b43 := b43, g43 := PySem.W.mg_of X G a43, F44 := F44, b44 := b44, g44 := PySem.W.mg_of X G a44, F45 := F45, b45 := b45, g45 := PySem.W.mg_of X G a45, F46 := F46, b46 := b46, g46 := PySem.W.mg_of X G a46, F47 := F47, b47 := b47, g47 := PySem.W.mg_of X G a47, F5800 := F5800, b5800 := b5800, F5804 := F5804, b5804 := b5804, F5806 := F5806, b5806 := b5806, F5808 := F5808, b5808 := b5808, F5810 := F5810, b5810 := b5810, F20 := F20, b20 := b20, g20 := PySem.W.mg_of X G a20, F21 := F21, b21 := b21, g21 := PySem.W.mg_of X G a21, F22 := F22, b22 := b22, g22 := PySem.W.mg_of X G a22, F23 := F23, b23 := b23, g23 := PySem.W.mg_of X G a23, F24 := F24, b24 := b24, g24 := PySem.W.mg_of X G a24, F25 := F25, b25 := b25, g25 := PySem.W.mg_of X G a25, F26 := F26, b26 := b26, g26 := PySem.W.mg_of X G a26, F27 := F27, b27 := b27, g27 := PySem.W.mg_of X G a27, F28 := F28, b28 := b28, g28 := PySem.W.mg_of X G a28, F29 := F29, b29 := b29, g29 := PySem.W.mg_of X G a29, F30 := F30, b30 := b30, g30 := PySem.W.mg_of X G a30, F4100 := F4100, b4100 := b4100, F4101 := F4101, b4101 := b4101, F4102 := F4102, b4102 := b4102, F1600 := F1600, b1600 := b1600, F51 := F51, b51 := b51, g51 := PySem.W.mg_of X G a51, F52 := F52, b52 := b52, g52 := PySem.W.mg_of X G a52, F53 := F53, b53 := b53, g53 := PySem.W.mg_of X G a53, F54 := F54, b54 := b54, g54 := PySem.W.mg_of X G a54, F56 := F56, b56 := b56, g56 := PySem.W.mg_of X G a56, F57 := F57, b57 := b57, g57 := PySem.W.mg_of X G a57, F58 := F58, b58 := b58, g58 := PySem.W.mg_of X G a58, F59 := F59, b59 := b59, g59 := PySem.W.mg_of X G a59, F61 := F61, b61 := b61, g61 := PySem.W.mg_of X G a61, F62 := F62, b62 := b62, g62 := PySem.W.mg_of X G a62, F63 := F63, b63 := b63, g63 := PySem.W.mg_of X G a63, F64 := F64, b64 := b64, g64 := PySem.W.mg_of X G a64, F66 := F66, b66 := b66, g66 := PySem.W.mg_of X G a66, F67 := F67, b67 := b67, g67 := PySem.W.mg_of X G a67, F68 := F68, b68 := b68, g68 := PySem.W.mg_of X G a68, F69 := F69, b69 := b69, g69 := PySem.W.mg_of X G a69, F70 := F70, b70 := b70, g70 := PySem.W.mg_of X G a70, F71 := F71, b71 := b71, g71 := PySem.W.mg_of X G a71, F72 := F72, b72 := b72, g72 := PySem.W.mg_of X G a72, F73 := F73, b73 := b73, g73 := PySem.W.mg_of X G a73, F74 := F74, b74 := b74, g74 := PySem.W.mg_of X G a74, F75 := F75, b75 := b75, g75 := PySem.W.mg_of X G a75, F76 := F76, b76 := b76, g76 := PySem.W.mg_of X G a76, F77 := F77, b77 := b77, g77 := PySem.W.mg_of X G a77, F78 := F78, b78 := b78, g78 := PySem.W.mg_of X G a78, cg_2 := PySem.W.mg_of X G ac_2, x_2 := ⟨⟨_, _, _, _, _, _, _, _, _, _, _, _, _, _, _, xl_2, rfl⟩, xs_2, xe_2, xt_2, xk_2⟩, xf_2 := ⟨ya_2, yg_2, xe_2, yh_2⟩, xi_2 := ⟨ya_2, yg_2, xe_2, yh_2, za_2, zn_2, zt_2, zm_2⟩, cg_3 := PySem.W.mg_of X G ac_3, x_3 := ⟨⟨_, _, _, _, _, _, _, _, _, _, _, _, _, _, _, xl_3, rfl⟩, xs_3, xe_3, xt_3, xk_3⟩, xf_3 := ⟨ya_3, yg_3, xe_3, yh_3⟩, xi_3 := ⟨ya_3, yg_3, xe_3, yh_3, za_3, zn_3, zt_3, zm_3⟩, in_3 := fi_3, ti_3 := ty_3, no_3_name := na_3_name, cg_5 := PySem.W.mg_of X G ac_5, x_5 := ⟨⟨_, _, _, _, _, _, _, _, _, _, _, _, _, _, _, xl_5, rfl⟩, xs_5, xe_5, xt_5, xk_5⟩, xf_5 := ⟨ya_5, yg_5, xe_5, yh_5⟩, xi_5 := ⟨ya_5, yg_5, xe_5, yh_5, za_5, zn_5, zt_5, zm_5⟩, in_5 := fi_5, ti_5 := ty_5, no_5_part := na_5_part, no_5_at := na_5_at, cg_6 := PySem.W.mg_of X G ac_6, x_6 := ⟨⟨_, _, _, _, _, _, _, _, _, _, _, _, _, _, _, xl_6, rfl⟩, xs_6, xe_6, xt_6, xk_6⟩, xf_6 := ⟨ya_6, yg_6, xe_6, yh_6⟩, xi_6 := ⟨ya_6, yg_6, xe_6, yh_6, za_6, zn_6, zt_6, zm_6⟩, in_6 := fi_6, ti_6 := ty_6, no_6_at := na_6_at, cg_48 := PySem.W.mg_of X G ac_48, cl_48 := ⟨pg_48, hd_48, po_48, sa_48⟩, M_48 := ⟨mk_48, fi_48, is_5800, kc_48⟩, no_48__tables := na_48__tables, no_48__keys := na_48__keys, no_48__services := na_48__services, cg_31 := PySem.W.mg_of X G ac_31, cl_31 := ⟨pg_31, hd_31, po_31, sa_31⟩, M_31 := ⟨mk_31, fi_31, is_4100, kc_31⟩, no_31_schema := na_31_schema, no_31_width := na_31_width, no_31_part_count := na_31_part_count, no_31_call_count := na_31_call_count, no_31__steps := na_31__steps, wg__LENGTHS := PySem.W.mg_of X G ac_90018, wg__NAMES := PySem.W.mg_of X G ac_90019, wg__PROGRAM_FORMS := PySem.W.mg_of X G ac_90055, ic_48 := ⟨⟨pg_48, hd_48, po_48, sa_48⟩, oa_48, on_48, ot_48, om_48, kit_self _⟩, ic_31 := ⟨⟨pg_31, hd_31, po_31, sa_31⟩, oa_31, on_31, ot_31, om_31, kit_self _⟩, ne_31 := ne_31, om_31 := om_31, exm_5_5 := PySem.W.exm_ref xe_5 yh_5 xt_5 es_5_5, m_5804 := ⟨ma_5804, mi_5804, k5804⟩, m_5806 := ⟨ma_5806, mi_5806, k5806⟩, m_5808 := ⟨ma_5808, mi_5808, k5808⟩, m_5810 := ⟨ma_5810, mi_5810, k5810⟩, m_4101 := ⟨ma_4101, mi_4101, k4101⟩, m_4102 := ⟨ma_4102, mi_4102, k4102⟩, z_all := PySem.W.mg_none_of X G z_all, z_bool := PySem.W.mg_none_of X G z_bool, z_dict := PySem.W.mg_none_of X G z_dict, z_enumerate := PySem.W.mg_none_of X G z_enumerate, z_int := PySem.W.mg_none_of X G z_int, z_isinstance := PySem.W.mg_none_of X G z_isinstance, z_len := PySem.W.mg_none_of X G z_len, z_list := PySem.W.mg_none_of X G z_list, z_max := PySem.W.mg_none_of X G z_max, z_range := PySem.W.mg_none_of X G z_range, z_sorted := PySem.W.mg_none_of X G z_sorted, z_str := PySem.W.mg_none_of X G z_str, z_tuple := PySem.W.mg_none_of X G z_tuple, z_zip := PySem.W.mg_none_of X G z_zip, c_LONGEST_WORD := ⟨_, PySem.W.mg_of X G v_LONGEST_WORD⟩, c_GREATEST_VALUE := ⟨_, PySem.W.mg_of X G v_GREATEST_VALUE⟩, c_MOST_STEPS := ⟨_, PySem.W.mg_of X G v_MOST_STEPS⟩, c_MOST_WIDTH_programs := ⟨_, PySem.W.mg_of X G v_MOST_WIDTH_programs⟩, c_MOST_PARTS := ⟨_, PySem.W.mg_of X G v_MOST_PARTS⟩, c_MOST_CALLS := ⟨_, PySem.W.mg_of X G v_MOST_CALLS⟩, c_MOST_TABLES := ⟨_, PySem.W.mg_of X G v_MOST_TABLES⟩, c_MOST_WIDTH_schemas := ⟨_, PySem.W.mg_of X G v_MOST_WIDTH_schemas⟩, c_MOST_SERVICES := ⟨_, PySem.W.mg_of X G v_MOST_SERVICES⟩, c_MOST_CAP := ⟨_, PySem.W.mg_of X G v_MOST_CAP⟩, c_MOST_DIGITS := ⟨_, PySem.W.mg_of X G v_MOST_DIGITS⟩ }
  have W0 : TxtW K w aa := by
    refine ⟨⟨_, _, wl_90018, wk_90018, wm_90018⟩, fun x hx => ?_, fun x hx => ?_⟩
    · simp only [kinds, List.mem_cons, List.not_mem_nil, or_false] at hx
      rcases hx with rfl | rfl | rfl | rfl | rfl | rfl
      · exact ⟨_, wv_90018_start⟩
      · exact ⟨_, wv_90018_call⟩
      · exact ⟨_, wv_90018_both⟩
      · exact ⟨_, wv_90018_pair⟩
      · exact ⟨_, wv_90018_where⟩
      · exact ⟨_, wv_90018_take⟩
    · simp only [kinds, List.mem_cons, List.not_mem_nil, or_false] at hx
      rcases hx with rfl | rfl | rfl | rfl | rfl | rfl
      · exact ⟨_, _, _, wl_90019, wk_90019, wv_90019_start, ⟨_, rfl⟩⟩
      · exact ⟨_, _, _, wl_90019, wk_90019, wv_90019_call, ⟨_, rfl⟩⟩
      · exact ⟨_, _, _, wl_90019, wk_90019, wv_90019_both, ⟨_, rfl⟩⟩
      · exact ⟨_, _, _, wl_90019, wk_90019, wv_90019_pair, ⟨_, rfl⟩⟩
      · exact ⟨_, _, _, wl_90019, wk_90019, wv_90019_where, ⟨_, rfl⟩⟩
      · exact ⟨_, _, _, wl_90019, wk_90019, wv_90019_take, ⟨_, rfl⟩⟩
  have W : TxtP K w aa := by
    refine ⟨W0, ⟨_, _, wl_90055, wk_90055, wm_90055⟩, fun x hx => ?_⟩
    simp only [pforms, List.mem_cons, List.not_mem_nil, or_false] at hx
    rcases hx with rfl | rfl | rfl | rfl | rfl | rfl
    · exact ⟨_, wv_90055_start, fun H => ⟨_, _, .non, [.ref _], rfl, .inr ⟨_, _, _, wq_90055_start, wqc_90055_start, wqd_90055_start, (by show 2 ≤ sizeLine; decide), .cons rfl (.cons rfl .nil)⟩, .inr ⟨_, _, _, wu_90055_start, wuc_90055_start, wud_90055_start, (by show 1 ≤ sizeLine; decide), .cons rfl .nil⟩, .cons ⟨_, rfl, .inl ⟨rfl, rfl⟩⟩ .nil, rfl, by decide⟩⟩
    · exact ⟨_, wv_90055_call, fun H => ⟨_, _, .ref _, [.ref _, .ref _, .ref _], rfl, .inr ⟨_, _, _, wq_90055_call, wqc_90055_call, wqd_90055_call, (by show 2 ≤ sizeLine; decide), .cons rfl (.cons rfl .nil)⟩, .inr ⟨_, _, _, wu_90055_call, wuc_90055_call, wud_90055_call, (by show 3 ≤ sizeLine; decide), .cons rfl (.cons rfl (.cons rfl .nil))⟩, .cons ⟨_, rfl, .inl ⟨rfl, rfl⟩⟩ (.cons ⟨_, rfl, .inl ⟨rfl, rfl⟩⟩ (.cons ⟨_, rfl, .inl ⟨rfl, rfl⟩⟩ .nil)), ⟨_, rfl, .inr (.inr ⟨rfl, rfl⟩)⟩, by decide⟩⟩
    · exact ⟨_, wv_90055_both, fun H => ⟨_, _, .non, [.ref _, .ref _, .ref _], rfl, .inr ⟨_, _, _, wq_90055_both, wqc_90055_both, wqd_90055_both, (by show 2 ≤ sizeLine; decide), .cons rfl (.cons rfl .nil)⟩, .inr ⟨_, _, _, wu_90055_both, wuc_90055_both, wud_90055_both, (by show 3 ≤ sizeLine; decide), .cons rfl (.cons rfl (.cons rfl .nil))⟩, .cons ⟨_, rfl, .inl ⟨rfl, rfl⟩⟩ (.cons ⟨_, rfl, .inl ⟨rfl, rfl⟩⟩ (.cons ⟨_, rfl, .inl ⟨rfl, rfl⟩⟩ .nil)), rfl, by decide⟩⟩
    · exact ⟨_, wv_90055_pair, fun H => ⟨_, _, .non, [.ref _, .ref _, .ref _], rfl, .inr ⟨_, _, _, wq_90055_pair, wqc_90055_pair, wqd_90055_pair, (by show 2 ≤ sizeLine; decide), .cons rfl (.cons rfl .nil)⟩, .inr ⟨_, _, _, wu_90055_pair, wuc_90055_pair, wud_90055_pair, (by show 3 ≤ sizeLine; decide), .cons rfl (.cons rfl (.cons rfl .nil))⟩, .cons ⟨_, rfl, .inl ⟨rfl, rfl⟩⟩ (.cons ⟨_, rfl, .inl ⟨rfl, rfl⟩⟩ (.cons ⟨_, rfl, .inl ⟨rfl, rfl⟩⟩ .nil)), rfl, by decide⟩⟩
    · exact ⟨_, wv_90055_where, fun H => ⟨_, _, .non, [.ref _, .ref _, .ref _, .ref _], rfl, .inr ⟨_, _, _, wq_90055_where, wqc_90055_where, wqd_90055_where, (by show 2 ≤ sizeLine; decide), .cons rfl (.cons rfl .nil)⟩, .inr ⟨_, _, _, wu_90055_where, wuc_90055_where, wud_90055_where, (by show 4 ≤ sizeLine; decide), .cons rfl (.cons rfl (.cons rfl (.cons rfl .nil)))⟩, .cons ⟨_, rfl, .inl ⟨rfl, rfl⟩⟩ (.cons ⟨_, rfl, .inl ⟨rfl, rfl⟩⟩ (.cons ⟨_, rfl, .inr (.inl ⟨rfl, rfl⟩)⟩ (.cons ⟨_, rfl, .inr (.inr ⟨rfl, rfl⟩)⟩ .nil))), rfl, by decide⟩⟩
    · exact ⟨_, wv_90055_take, fun H => ⟨_, _, .ref _, [.ref _, .ref _], rfl, .inr ⟨_, _, _, wq_90055_take, wqc_90055_take, wqd_90055_take, (by show 2 ≤ sizeLine; decide), .cons rfl (.cons rfl .nil)⟩, .inr ⟨_, _, _, wu_90055_take, wuc_90055_take, wud_90055_take, (by show 2 ≤ sizeLine; decide), .cons rfl (.cons rfl .nil)⟩, .cons ⟨_, rfl, .inl ⟨rfl, rfl⟩⟩ (.cons ⟨_, rfl, .inl ⟨rfl, rfl⟩⟩ .nil), ⟨_, rfl, .inr (.inr ⟨rfl, rfl⟩)⟩, by decide⟩⟩
  exact ⟨_, fun s v => .of_eq rfl, fun base _ _ => ok_law T W⟩
end My
open PySem PySem.W PyProof.Rows
set_option maxRecDepth 100000 in
set_option maxHeartbeats 0 in
theorem PySem.Challenge.cw_cappedcalls_k68_lines_of_programs_holds : PySem.Challenge.rw_cappedcalls_k68_lines_of_programs.Holds := by
  w_on; o_law; k_head; (case hw => w_witness2)
  k_fill
  refine L2.walk_of (l := PySem.Challenge.rw_cappedcalls_k68_lines_of_programs) (n := 63) (k := 12) (x := "_law_script") (CX := fun _ => L2.CX0) (sp := fun w => My.spLaw _) rfl (by decide) rfl ⟨rfl, by decide, by decide⟩ (fun w h Y => PySem.W.kIn_of Y) ?F (fun _ _ a ns hl _ hS => ⟨a, ns, rfl, hS, hl, fun _ => rfl⟩) (fun _ _ _ _ _ h => h)
  case F =>
    intro w mg fa h KX G hmg
    refine' My.all_mk KX G hmg ?ac_2 ?ac_3 ?ac_5 ?ac_6 ?ac_48 ?ac_31 ?ac_90018 ?ac_90019 ?ac_90055 ?fi_3 ?fi_5 ?fi_6 ?fi_48 ?fi_31 ?ma_5804 ?ma_5806 ?ma_5808 ?ma_5810 ?ma_4101 ?ma_4102 ?l1300 ?c1300 ?k1300 ?l1500 ?c1500 ?k1500 ?a10 ?l10 ?c10 ?k10 ?a11 ?l11 ?c11 ?k11 ?a12 ?l12 ?c12 ?k12 ?a37 ?l37 ?c37 ?k37 ?a38 ?l38 ?c38 ?k38 ?a39 ?l39 ?c39 ?k39 ?a40 ?l40 ?c40 ?k40 ?a41 ?l41 ?c41 ?k41 ?a42 ?l42 ?c42 ?k42 ?a43 ?l43 ?c43 ?k43 ?a44 ?l44 ?c44 ?k44 ?a45 ?l45 ?c45 ?k45 ?a46 ?l46 ?c46 ?k46 ?a47 ?l47 ?c47 ?k47 ?l5800 ?c5800 ?k5800 ?l5804 ?c5804 ?k5804 ?l5806 ?c5806 ?k5806 ?l5808 ?c5808 ?k5808 ?l5810 ?c5810 ?k5810 ?a20 ?l20 ?c20 ?k20 ?a21 ?l21 ?c21 ?k21 ?a22 ?l22 ?c22 ?k22 ?a23 ?l23 ?c23 ?k23 ?a24 ?l24 ?c24 ?k24 ?a25 ?l25 ?c25 ?k25 ?a26 ?l26 ?c26 ?k26 ?a27 ?l27 ?c27 ?k27 ?a28 ?l28 ?c28 ?k28 ?a29 ?l29 ?c29 ?k29 ?a30 ?l30 ?c30 ?k30 ?l4100 ?c4100 ?k4100 ?l4101 ?c4101 ?k4101 ?l4102 ?c4102 ?k4102 ?l1600 ?c1600 ?k1600 ?a51 ?l51 ?c51 ?k51 ?a52 ?l52 ?c52 ?k52 ?a53 ?l53 ?c53 ?k53 ?a54 ?l54 ?c54 ?k54 ?a56 ?l56 ?c56 ?k56 ?a57 ?l57 ?c57 ?k57 ?a58 ?l58 ?c58 ?k58 ?a59 ?l59 ?c59 ?k59 ?a61 ?l61 ?c61 ?k61 ?a62 ?l62 ?c62 ?k62 ?a63 ?l63 ?c63 ?k63 ?a64 ?l64 ?c64 ?k64 ?a66 ?l66 ?c66 ?k66 ?a67 ?l67 ?c67 ?k67 ?a68 ?l68 ?c68 ?k68 ?a69 ?l69 ?c69 ?k69 ?a70 ?l70 ?c70 ?k70 ?a71 ?l71 ?c71 ?k71 ?a72 ?l72 ?c72 ?k72 ?a73 ?l73 ?c73 ?k73 ?a74 ?l74 ?c74 ?k74 ?a75 ?l75 ?c75 ?k75 ?a76 ?l76 ?c76 ?k76 ?a77 ?l77 ?c77 ?k77 ?a78 ?l78 ?c78 ?k78 ?xl_2 ?xs_2 ?xe_2 ?xt_2 ?xk_2 ?ya_2 ?yg_2 ?yh_2 ?za_2 ?zn_2 ?zt_2 ?zm_2 ?xl_3 ?xs_3 ?xe_3 ?xt_3 ?xk_3 ?ya_3 ?yg_3 ?yh_3 ?za_3 ?zn_3 ?zt_3 ?zm_3 ?ty_3 ?na_3_name ?xl_5 ?xs_5 ?xe_5 ?xt_5 ?xk_5 ?ya_5 ?yg_5 ?yh_5 ?za_5 ?zn_5 ?zt_5 ?zm_5 ?ty_5 ?na_5_part ?na_5_at ?xl_6 ?xs_6 ?xe_6 ?xt_6 ?xk_6 ?ya_6 ?yg_6 ?yh_6 ?za_6 ?zn_6 ?zt_6 ?zm_6 ?ty_6 ?na_6_at ?pg_48 ?hd_48 ?po_48 ?sa_48 ?mk_48 ?is_5800 ?kc_48 ?na_48__tables ?na_48__keys ?na_48__services ?pg_31 ?hd_31 ?po_31 ?sa_31 ?mk_31 ?is_4100 ?kc_31 ?na_31_schema ?na_31_width ?na_31_part_count ?na_31_call_count ?na_31__steps ?wv_90018_start ?wv_90018_call ?wv_90018_both ?wv_90018_pair ?wv_90018_where ?wv_90018_take ?wl_90018 ?wk_90018 ?wm_90018 ?wv_90019_start ?wv_90019_call ?wv_90019_both ?wv_90019_pair ?wv_90019_where ?wv_90019_take ?wl_90019 ?wk_90019 ?wm_90019 ?wv_90055_start ?wq_90055_start ?wqc_90055_start ?wqd_90055_start ?wu_90055_start ?wuc_90055_start ?wud_90055_start ?wv_90055_call ?wq_90055_call ?wqc_90055_call ?wqd_90055_call ?wu_90055_call ?wuc_90055_call ?wud_90055_call ?wv_90055_both ?wq_90055_both ?wqc_90055_both ?wqd_90055_both ?wu_90055_both ?wuc_90055_both ?wud_90055_both ?wv_90055_pair ?wq_90055_pair ?wqc_90055_pair ?wqd_90055_pair ?wu_90055_pair ?wuc_90055_pair ?wud_90055_pair ?wv_90055_where ?wq_90055_where ?wqc_90055_where ?wqd_90055_where ?wu_90055_where ?wuc_90055_where ?wud_90055_where ?wv_90055_take ?wq_90055_take ?wqc_90055_take ?wqd_90055_take ?wu_90055_take ?wuc_90055_take ?wud_90055_take ?wl_90055 ?wk_90055 ?wm_90055 ?oa_48 ?on_48 ?ot_48 ?om_48 ?oa_31 ?on_31 ?ot_31 ?om_31 ?ne_31 ?es_5_5 ?mi_5804 ?mi_5806 ?mi_5808 ?mi_5810 ?mi_4101 ?mi_4102 ?z_all ?z_bool ?z_dict ?z_enumerate ?z_int ?z_isinstance ?z_len ?z_list ?z_max ?z_range ?z_sorted ?z_str ?z_tuple ?z_zip ?v_LONGEST_WORD ?v_GREATEST_VALUE ?v_MOST_STEPS ?v_MOST_WIDTH_programs ?v_MOST_PARTS ?v_MOST_CALLS ?v_MOST_TABLES ?v_MOST_WIDTH_schemas ?v_MOST_SERVICES ?v_MOST_CAP ?v_MOST_DIGITS
    (case ac_2 => k_is)
    (case ac_3 => k_is)
    (case ac_5 => k_is)
    (case ac_6 => k_is)
    (case ac_48 => k_is)
    (case ac_31 => k_is)
    (case ac_90018 => k_is)
    (case ac_90019 => k_is)
    (case ac_90055 => k_is)
    (case fi_3 => k_is)
    (case fi_5 => k_is)
    (case fi_6 => k_is)
    (case fi_48 => k_is)
    (case fi_31 => k_is)
    (case ma_5804 => k_is)
    (case ma_5806 => k_is)
    (case ma_5808 => k_is)
    (case ma_5810 => k_is)
    (case ma_4101 => k_is)
    (case ma_4102 => k_is)
    (case l1300 => k_is)
    (case c1300 => k_is)
    (case k1300 => k_is)
    (case l1500 => k_is)
    (case c1500 => k_is)
    (case k1500 => k_is)
    (case a10 => k_is)
    (case l10 => k_is)
    (case c10 => k_is)
    (case k10 => k_is)
    (case a11 => k_is)
    (case l11 => k_is)
    (case c11 => k_is)
    (case k11 => k_is)
    (case a12 => k_is)
    (case l12 => k_is)
    (case c12 => k_is)
    (case k12 => k_is)
    (case a37 => k_is)
    (case l37 => k_is)
    (case c37 => k_is)
    (case k37 => k_is)
    (case a38 => k_is)
    (case l38 => k_is)
    (case c38 => k_is)
    (case k38 => k_is)
    (case a39 => k_is)
    (case l39 => k_is)
    (case c39 => k_is)
    (case k39 => k_is)
    (case a40 => k_is)
    (case l40 => k_is)
    (case c40 => k_is)
    (case k40 => k_is)
    (case a41 => k_is)
    (case l41 => k_is)
    (case c41 => k_is)
    (case k41 => k_is)
    (case a42 => k_is)
    (case l42 => k_is)
    (case c42 => k_is)
    (case k42 => k_is)
    (case a43 => k_is)
    (case l43 => k_is)
    (case c43 => k_is)
    (case k43 => k_is)
    (case a44 => k_is)
    (case l44 => k_is)
    (case c44 => k_is)
    (case k44 => k_is)
    (case a45 => k_is)
    (case l45 => k_is)
    (case c45 => k_is)
    (case k45 => k_is)
    (case a46 => k_is)
    (case l46 => k_is)
    (case c46 => k_is)
    (case k46 => k_is)
    (case a47 => k_is)
    (case l47 => k_is)
    (case c47 => k_is)
    (case k47 => k_is)
    (case l5800 => k_is)
    (case c5800 => k_is)
    (case k5800 => k_is)
    (case l5804 => k_is)
    (case c5804 => k_is)
    (case k5804 => k_is)
    (case l5806 => k_is)
    (case c5806 => k_is)
    (case k5806 => k_is)
    (case l5808 => k_is)
    (case c5808 => k_is)
    (case k5808 => k_is)
    (case l5810 => k_is)
    (case c5810 => k_is)
    (case k5810 => k_is)
    (case a20 => k_is)
    (case l20 => k_is)
    (case c20 => k_is)
    (case k20 => k_is)
    (case a21 => k_is)
    (case l21 => k_is)
    (case c21 => k_is)
    (case k21 => k_is)
    (case a22 => k_is)
    (case l22 => k_is)
    (case c22 => k_is)
    (case k22 => k_is)
    (case a23 => k_is)
    (case l23 => k_is)
    (case c23 => k_is)
    (case k23 => k_is)
    (case a24 => k_is)
    (case l24 => k_is)
    (case c24 => k_is)
    (case k24 => k_is)
    (case a25 => k_is)
    (case l25 => k_is)
    (case c25 => k_is)
    (case k25 => k_is)
    (case a26 => k_is)
    (case l26 => k_is)
    (case c26 => k_is)
    (case k26 => k_is)
    (case a27 => k_is)
    (case l27 => k_is)
    (case c27 => k_is)
    (case k27 => k_is)
    (case a28 => k_is)
    (case l28 => k_is)
    (case c28 => k_is)
    (case k28 => k_is)
    (case a29 => k_is)
    (case l29 => k_is)
    (case c29 => k_is)
    (case k29 => k_is)
    (case a30 => k_is)
    (case l30 => k_is)
    (case c30 => k_is)
    (case k30 => k_is)
    (case l4100 => k_is)
    (case c4100 => k_is)
    (case k4100 => k_is)
    (case l4101 => k_is)
    (case c4101 => k_is)
    (case k4101 => k_is)
    (case l4102 => k_is)
    (case c4102 => k_is)
    (case k4102 => k_is)
    (case l1600 => k_is)
    (case c1600 => k_is)
    (case k1600 => k_is)
    (case a51 => k_is)
    (case l51 => k_is)
    (case c51 => k_is)
    (case k51 => k_is)
    (case a52 => k_is)
    (case l52 => k_is)
    (case c52 => k_is)
    (case k52 => k_is)
    (case a53 => k_is)
    (case l53 => k_is)
    (case c53 => k_is)
    (case k53 => k_is)
    (case a54 => k_is)
    (case l54 => k_is)
    (case c54 => k_is)
    (case k54 => k_is)
    (case a56 => k_is)
    (case l56 => k_is)
    (case c56 => k_is)
    (case k56 => k_is)
    (case a57 => k_is)
    (case l57 => k_is)
    (case c57 => k_is)
    (case k57 => k_is)
    (case a58 => k_is)
    (case l58 => k_is)
    (case c58 => k_is)
    (case k58 => k_is)
    (case a59 => k_is)
    (case l59 => k_is)
    (case c59 => k_is)
    (case k59 => k_is)
    (case a61 => k_is)
    (case l61 => k_is)
    (case c61 => k_is)
    (case k61 => k_is)
    (case a62 => k_is)
    (case l62 => k_is)
    (case c62 => k_is)
    (case k62 => k_is)
    (case a63 => k_is)
    (case l63 => k_is)
    (case c63 => k_is)
    (case k63 => k_is)
    (case a64 => k_is)
    (case l64 => k_is)
    (case c64 => k_is)
    (case k64 => k_is)
    (case a66 => k_is)
    (case l66 => k_is)
    (case c66 => k_is)
    (case k66 => k_is)
    (case a67 => k_is)
    (case l67 => k_is)
    (case c67 => k_is)
    (case k67 => k_is)
    (case a68 => k_is)
    (case l68 => k_is)
    (case c68 => k_is)
    (case k68 => k_is)
    (case a69 => k_is)
    (case l69 => k_is)
    (case c69 => k_is)
    (case k69 => k_is)
    (case a70 => k_is)
    (case l70 => k_is)
    (case c70 => k_is)
    (case k70 => k_is)
    (case a71 => k_is)
    (case l71 => k_is)
    (case c71 => k_is)
    (case k71 => k_is)
    (case a72 => k_is)
    (case l72 => k_is)
    (case c72 => k_is)
    (case k72 => k_is)
    (case a73 => k_is)
    (case l73 => k_is)
    (case c73 => k_is)
    (case k73 => k_is)
    (case a74 => k_is)
    (case l74 => k_is)
    (case c74 => k_is)
    (case k74 => k_is)
    (case a75 => k_is)
    (case l75 => k_is)
    (case c75 => k_is)
    (case k75 => k_is)
    (case a76 => k_is)
    (case l76 => k_is)
    (case c76 => k_is)
    (case k76 => k_is)
    (case a77 => k_is)
    (case l77 => k_is)
    (case c77 => k_is)
    (case k77 => k_is)
    (case a78 => k_is)
    (case l78 => k_is)
    (case c78 => k_is)
    (case k78 => k_is)
    (case xl_2 => k_is)
    (case xs_2 => k_is)
    (case xe_2 => k_is)
    (case xt_2 => k_is)
    (case xk_2 => k_is)
    (case ya_2 => k_is)
    (case yg_2 => k_is)
    (case yh_2 => k_is)
    (case za_2 => k_is)
    (case zn_2 => k_is)
    (case zt_2 => k_is)
    (case zm_2 => k_is)
    (case xl_3 => k_is)
    (case xs_3 => k_is)
    (case xe_3 => k_is)
    (case xt_3 => k_is)
    (case xk_3 => k_is)
    (case ya_3 => k_is)
    (case yg_3 => k_is)
    (case yh_3 => k_is)
    (case za_3 => k_is)
    (case zn_3 => k_is)
    (case zt_3 => k_is)
    (case zm_3 => k_is)
    (case ty_3 => k_is)
    (case na_3_name => k_is)
    (case xl_5 => k_is)
    (case xs_5 => k_is)
    (case xe_5 => k_is)
    (case xt_5 => k_is)
    (case xk_5 => k_is)
    (case ya_5 => k_is)
    (case yg_5 => k_is)
    (case yh_5 => k_is)
    (case za_5 => k_is)
    (case zn_5 => k_is)
    (case zt_5 => k_is)
    (case zm_5 => k_is)
    (case ty_5 => k_is)
    (case na_5_part => k_is)
    (case na_5_at => k_is)
    (case xl_6 => k_is)
    (case xs_6 => k_is)
    (case xe_6 => k_is)
    (case xt_6 => k_is)
    (case xk_6 => k_is)
    (case ya_6 => k_is)
    (case yg_6 => k_is)
    (case yh_6 => k_is)
    (case za_6 => k_is)
    (case zn_6 => k_is)
    (case zt_6 => k_is)
    (case zm_6 => k_is)
    (case ty_6 => k_is)
    (case na_6_at => k_is)
    (case pg_48 => k_is)
    (case hd_48 => k_is)
    (case po_48 => k_is)
    (case sa_48 => k_is)
    (case mk_48 => k_is)
    (case is_5800 => k_is)
    (case kc_48 => k_is)
    (case na_48__tables => k_is)
    (case na_48__keys => k_is)
    (case na_48__services => k_is)
    (case pg_31 => k_is)
    (case hd_31 => k_is)
    (case po_31 => k_is)
    (case sa_31 => k_is)
    (case mk_31 => k_is)
    (case is_4100 => k_is)
    (case kc_31 => k_is)
    (case na_31_schema => k_is)
    (case na_31_width => k_is)
    (case na_31_part_count => k_is)
    (case na_31_call_count => k_is)
    (case na_31__steps => k_is)
    (case wv_90018_start => k_is)
    (case wv_90018_call => k_is)
    (case wv_90018_both => k_is)
    (case wv_90018_pair => k_is)
    (case wv_90018_where => k_is)
    (case wv_90018_take => k_is)
    (case wl_90018 => k_is)
    (case wk_90018 => exact ⟨⟨_, _, rfl, rfl⟩, ⟨_, _, rfl, rfl⟩, ⟨_, _, rfl, rfl⟩, ⟨_, _, rfl, rfl⟩, ⟨_, _, rfl, rfl⟩, ⟨_, _, rfl, rfl⟩,  trivial⟩)
    (case wm_90018 => rfl)
    (case wv_90019_start => k_is)
    (case wv_90019_call => k_is)
    (case wv_90019_both => k_is)
    (case wv_90019_pair => k_is)
    (case wv_90019_where => k_is)
    (case wv_90019_take => k_is)
    (case wl_90019 => k_is)
    (case wk_90019 => exact ⟨⟨_, _, rfl, rfl⟩, ⟨_, _, rfl, rfl⟩, ⟨_, _, rfl, rfl⟩, ⟨_, _, rfl, rfl⟩, ⟨_, _, rfl, rfl⟩, ⟨_, _, rfl, rfl⟩,  trivial⟩)
    (case wm_90019 => rfl)
    (case wv_90055_start => k_is)
    (case wq_90055_start => k_is)
    (case wqc_90055_start => rfl)
    (case wqd_90055_start => rfl)
    (case wu_90055_start => k_is)
    (case wuc_90055_start => rfl)
    (case wud_90055_start => rfl)
    (case wv_90055_call => k_is)
    (case wq_90055_call => k_is)
    (case wqc_90055_call => rfl)
    (case wqd_90055_call => rfl)
    (case wu_90055_call => k_is)
    (case wuc_90055_call => rfl)
    (case wud_90055_call => rfl)
    (case wv_90055_both => k_is)
    (case wq_90055_both => k_is)
    (case wqc_90055_both => rfl)
    (case wqd_90055_both => rfl)
    (case wu_90055_both => k_is)
    (case wuc_90055_both => rfl)
    (case wud_90055_both => rfl)
    (case wv_90055_pair => k_is)
    (case wq_90055_pair => k_is)
    (case wqc_90055_pair => rfl)
    (case wqd_90055_pair => rfl)
    (case wu_90055_pair => k_is)
    (case wuc_90055_pair => rfl)
    (case wud_90055_pair => rfl)
    (case wv_90055_where => k_is)
    (case wq_90055_where => k_is)
    (case wqc_90055_where => rfl)
    (case wqd_90055_where => rfl)
    (case wu_90055_where => k_is)
    (case wuc_90055_where => rfl)
    (case wud_90055_where => rfl)
    (case wv_90055_take => k_is)
    (case wq_90055_take => k_is)
    (case wqc_90055_take => rfl)
    (case wqd_90055_take => rfl)
    (case wu_90055_take => k_is)
    (case wuc_90055_take => rfl)
    (case wud_90055_take => rfl)
    (case wl_90055 => k_is)
    (case wk_90055 => exact ⟨⟨_, _, rfl, rfl⟩, ⟨_, _, rfl, rfl⟩, ⟨_, _, rfl, rfl⟩, ⟨_, _, rfl, rfl⟩, ⟨_, _, rfl, rfl⟩, ⟨_, _, rfl, rfl⟩,  trivial⟩)
    (case wm_90055 => rfl)
    (case oa_48 => k_is)
    (case on_48 => k_is)
    (case ot_48 => k_is)
    (case om_48 => k_is)
    (case oa_31 => k_is)
    (case on_31 => k_is)
    (case ot_31 => k_is)
    (case om_31 => k_is)
    (case ne_31 => k_is)
    (case es_5_5 => first | rfl | k_is)
    (case mi_5804 => k_is)
    (case mi_5806 => k_is)
    (case mi_5808 => k_is)
    (case mi_5810 => k_is)
    (case mi_4101 => k_is)
    (case mi_4102 => k_is)
    (case z_all => k_is)
    (case z_bool => k_is)
    (case z_dict => k_is)
    (case z_enumerate => k_is)
    (case z_int => k_is)
    (case z_isinstance => k_is)
    (case z_len => k_is)
    (case z_list => k_is)
    (case z_max => k_is)
    (case z_range => k_is)
    (case z_sorted => k_is)
    (case z_str => k_is)
    (case z_tuple => k_is)
    (case z_zip => k_is)
    (case v_LONGEST_WORD => k_is)
    (case v_GREATEST_VALUE => k_is)
    (case v_MOST_STEPS => k_is)
    (case v_MOST_WIDTH_programs => k_is)
    (case v_MOST_PARTS => k_is)
    (case v_MOST_CALLS => k_is)
    (case v_MOST_TABLES => k_is)
    (case v_MOST_WIDTH_schemas => k_is)
    (case v_MOST_SERVICES => k_is)
    (case v_MOST_CAP => k_is)
    (case v_MOST_DIGITS => k_is)

