import PyProof.Rows.All
import Wide.All
import OpenK.AllK
import Wide.FinOn
import HandS.ForExc
import HandS.Comp
import HandS.Wide
import HandS.IsInst
import HandS.Codes
import HandS.ExcInit
import HandS.Property
import HandS.Defaults
import HandS.HeadHook2
import HandS.HeadEnd
import HandS.HeadNt
import HandS.Head2
import KE.DataEq
import HandS.NoneIn
import HandS.SetFor
import HandS.More
import HandS.Dict
import HandS.Small
import HandS.ClsMeth
import HandS.ExcField
import HandS.ExcIs
import HandS.TryMany
import HandS.DictComp
import HandS.Iter
import HandS.Conv
import KE.KCallOwn
import HandS.Style
import HandS.TupLe
import HandS.HeadHook3
import HandS.HeadWalk
import HandS.RaiseMore
import PyProof.RowDictHeap
import HandS.CallSlots
import HandS.Strs
import HandS.Lambda
import KE.KNestM
import PySem.Challenge.RW_agedfiles_k07_rules_told
set_option Elab.async false
set_option linter.all false
set_option maxRecDepth 100000
set_option maxHeartbeats 4000000
namespace AF
open PySem PySem.Spec PyProof.Rows L2

theorem rm {j k : Nat} {A : Around} (r : Room k A) (h : j ≤ k := by decide) : Room j A := r.mono h
/-! what stands on the heap, told by a list -/
abbrev Ent := Addr × HO × Bool
def tag (e : Ent) : Addr × Bool := (e.1, e.2.2)
def Apart (a b : Addr × Bool) : Prop := a.2 = true ∨ b.2 = true → a.1 ≠ b.1
structure Sh (H0 : Hp) (M : Addr → Prop) (H : Hp) (l : List Ent) : Prop where
  fr : ∀ b o, H0 b = some o → ¬ M b → H b = some o
  has : ∀ e, e ∈ l → H e.1 = some e.2.1
  ap : (l.map tag).Pairwise Apart
  mu : ∀ e, e ∈ l → e.2.2 = true → M e.1 ∨ H0 e.1 = none
/-- what a call leaves as it was: all but ms -/
def Ch (ms : List Addr) (H H' : Hp) : Prop := ∀ b o, H b = some o → b ∉ ms → H' b = some o
theorem Ch.rfl' {ms : List Addr} {H : Hp} : Ch ms H H := fun _ _ h _ => h
inductive Rep : List Ent → Addr → HO → HO → List Ent → Prop where
  | here {p : Addr} {o o' : HO} {r : List Ent} : Rep ((p, o, true) :: r) p o o' ((p, o', true) :: r)
  | next {e : Ent} {l : List Ent} {p : Addr} {o o' : HO} {l' : List Ent} : Rep l p o o' l' → Rep (e :: l) p o o' (e :: l')
theorem Rep.tags {l l' : List Ent} {p : Addr} {o o' : HO} (r : Rep l p o o' l') : l'.map tag = l.map tag := by
  induction r with
  | here => rfl
  | next _ ih => rw [List.map_cons, List.map_cons, ih]
theorem Rep.mem {l l' : List Ent} {p : Addr} {o o' : HO} (r : Rep l p o o' l') : (p, o, true) ∈ l := by
  induction r with
  | here => exact List.mem_cons_self
  | next _ ih => exact List.mem_cons_of_mem _ ih
theorem Rep.mem' {l l' : List Ent} {p : Addr} {o o' : HO} (r : Rep l p o o' l') : (p, o', true) ∈ l' := by
  induction r with
  | here => exact List.mem_cons_self
  | next _ ih => exact List.mem_cons_of_mem _ ih
theorem Rep.other {l l' : List Ent} {p : Addr} {o o' : HO} (r : Rep l p o o' l') (ap : (l.map tag).Pairwise Apart) : ∀ e, e ∈ l' → e = (p, o', true) ∨ (e ∈ l ∧ e.1 ≠ p) := by
  induction r with
  | here =>
    intro e he
    rcases List.mem_cons.mp he with h | h
    · exact .inl h
    · rw [List.map_cons, List.pairwise_cons] at ap
      exact .inr ⟨List.mem_cons_of_mem _ h, fun z => ap.1 (tag e) (List.mem_map.mpr ⟨e, h, rfl⟩) (.inl rfl) z.symm⟩
  | @next e0 l p o o' l' r ih =>
    intro e he
    rw [List.map_cons, List.pairwise_cons] at ap
    rcases List.mem_cons.mp he with h | h
    · subst h
      refine .inr ⟨List.mem_cons_self, fun z => ?_⟩
      exact ap.1 (tag (p, o, true)) (List.mem_map.mpr ⟨_, r.mem, rfl⟩) (.inr rfl) z
    · rcases ih ap.2 e h with h | ⟨h, n⟩
      · exact .inl h
      · exact .inr ⟨List.mem_cons_of_mem _ h, n⟩
inductive On : List Ent → Addr → HO → Prop where
  | here {p : Addr} {o : HO} {m : Bool} {r : List Ent} : On ((p, o, m) :: r) p o
  | next {e : Ent} {l : List Ent} {p : Addr} {o : HO} : On l p o → On (e :: l) p o
theorem On.mem {l : List Ent} {p : Addr} {o : HO} (h : On l p o) : ∃ m, (p, o, m) ∈ l := by
  induction h with
  | here => exact ⟨_, List.mem_cons_self⟩
  | next _ ih =>
    obtain ⟨m, h⟩ := ih
    exact ⟨m, List.mem_cons_of_mem _ h⟩
section
variable {H0 : Hp} {M : Addr → Prop} {H H' : Hp} {l l' : List Ent} {p q b : Addr} {o o' : HO} {m : Bool}
theorem Sh.at_ (S : Sh H0 M H l) (h : (p, o, m) ∈ l) : H p = some o := S.has _ h
theorem Sh.has_ (S : Sh H0 M H l) (h : On l p o) : H p = some o := by
  obtain ⟨m, h⟩ := h.mem
  exact S.has _ h
theorem Sh.ch0 (S : Sh H0 M H l) (c : Ch [] H H') : Sh H0 M H' l :=
  ⟨fun b o h n => c b o (S.fr b o h n) List.not_mem_nil, fun e he => c _ _ (S.has e he) List.not_mem_nil, S.ap, S.mu⟩
theorem Sh.ch1 (S : Sh H0 M H l) (r : Rep l p o o' l') (c : Ch [p] H H') (h : H' p = some o') : Sh H0 M H' l' := by
  have mp := S.mu _ r.mem rfl
  refine ⟨fun b u hb n => ?_, fun e he => ?_, by rw [r.tags]; exact S.ap, fun e he hm => ?_⟩
  · by_cases e : b = p
    · subst e
      rcases mp with k | k
      · exact absurd k n
      · rw [show H0 b = none from k] at hb; cases hb
    · exact c b u (S.fr b u hb n) (by simpa using e)
  · rcases r.other S.ap e he with h1 | ⟨h1, h2⟩
    · rw [h1]; exact h
    · exact c _ _ (S.has e h1) (by simpa using h2)
  · rcases r.other S.ap e he with h1 | ⟨h1, _⟩
    · rw [h1]; exact mp
    · exact S.mu e h1 hm
theorem Sh.add (S : Sh H0 M H l) (c : Ch [] H H') (hn : H q = none) (h : H' q = some o) : Sh H0 M H' ((q, o, true) :: l) := by
  have S' := S.ch0 c
  refine ⟨S'.fr, fun e he => ?_, ?_, fun e he hm => ?_⟩
  · rcases List.mem_cons.mp he with h1 | h1
    · rw [h1]; exact h
    · exact S'.has e h1
  · rw [List.map_cons, List.pairwise_cons]
    refine ⟨fun t ht _ z => ?_, S.ap⟩
    obtain ⟨e, he, rfl⟩ := List.mem_map.mp ht
    have z' : q = e.1 := z
    have := S.has e he
    rw [← z', hn] at this; cases this
  · rcases List.mem_cons.mp he with h1 | h1
    · rw [h1]
      by_cases k : M q
      · exact .inl k
      · refine .inr ?_
        cases e0 : H0 q with
        | none => rfl
        | some u => rw [S.fr q u e0 k] at hn; cases hn
    · exact S.mu e h1 hm
theorem ch_upd_new (hn : H p = none) : Ch [] H (upd H p o) := fun b u h _ => by
  rw [upd_ne (ne_of_none h hn)]; exact h
theorem ch_upd : Ch [p] H (upd H p o) := fun b u h n => by
  rw [upd_ne (by simpa using n)]; exact h
theorem Sh.new (S : Sh H0 M H l) (hn : H p = none) : Sh H0 M (upd H p o) ((p, o, true) :: l) := S.add (ch_upd_new hn) hn upd_same
theorem Sh.put (S : Sh H0 M H l) (r : Rep l p o o' l') : Sh H0 M (upd H p o') l' := S.ch1 r ch_upd upd_same
theorem Sh.out {ms : List Addr} (S : Sh H0 M H l) (h : ∀ b, M b → b ∈ ms) : Ch ms H0 H := fun b o hb n => S.fr b o hb fun k => n (h b k)
theorem Sh.was (S : Sh H0 M H l) (hn : H q = none) (k : ¬ M q) : H0 q = none := by
  cases e0 : H0 q with
  | none => rfl
  | some u => rw [S.fr q u e0 k] at hn; cases hn
theorem Sh.seq {K : PySem.W.Frag} {a : Addr} {xs : List V} (S : Sh H0 M H l) (k : ¬ M a) (h : SqL K H0 a xs) : SqL K H a xs := by
  rcases h with (h | ⟨o, h⟩) | h
  · exact .inl (.inl (S.fr _ _ h k))
  · exact .inl (.inr ⟨o, S.fr _ _ h k⟩)
  · exact .inr h
theorem Sh.start {M : Addr → Prop} : Sh H M H [] := ⟨fun _ _ h _ => h, fun _ h => (nomatch h), List.Pairwise.nil, fun _ h => (nomatch h)⟩
/-- one more thing that stands, not to be changed, apart from what may be -/
theorem Sh.know (S : Sh H0 M H l) (h : H p = some o) (d : ∀ e, e ∈ l → e.2.2 = true → p ≠ e.1) : Sh H0 M H ((p, o, false) :: l) := by
  refine ⟨S.fr, fun e he => ?_, ?_, fun e he hm => ?_⟩
  · rcases List.mem_cons.mp he with h1 | h1
    · rw [h1]; exact h
    · exact S.has e h1
  · rw [List.map_cons, List.pairwise_cons]
    refine ⟨fun t ht k => ?_, S.ap⟩
    obtain ⟨e, he, rfl⟩ := List.mem_map.mp ht
    rcases k with k | k
    · cases k
    · exact d e he k
  · rcases List.mem_cons.mp he with h1 | h1
    · rw [h1] at hm; cases hm
    · exact S.mu e h1 hm
/-- one that may be changed -/
theorem Sh.take (S : Sh H0 M H l) (h : H p = some o) (k : M p) (d : ∀ e, e ∈ l → p ≠ e.1) : Sh H0 M H ((p, o, true) :: l) := by
  refine ⟨S.fr, fun e he => ?_, ?_, fun e he hm => ?_⟩
  · rcases List.mem_cons.mp he with h1 | h1
    · rw [h1]; exact h
    · exact S.has e h1
  · rw [List.map_cons, List.pairwise_cons]
    refine ⟨fun t ht _ => ?_, S.ap⟩
    obtain ⟨e, he, rfl⟩ := List.mem_map.mp ht
    exact d e he
  · rcases List.mem_cons.mp he with h1 | h1
    · rw [h1]; exact .inl k
    · exact S.mu e h1 hm
end

/-! slots -/
inductive SetS : L2.St → Nat → V → L2.St → Prop where
  | z {a : Option V} {r : L2.St} {x : V} : SetS (a :: r) 0 x (some x :: r)
  | s {a : Option V} {r r' : L2.St} {i : Nat} {x : V} : SetS r i x r' → SetS (a :: r) (i + 1) x (a :: r')
theorem SetS.eq {σ σ' : L2.St} {i : Nat} {x : V} (h : SetS σ i x σ') : σ.set i (some x) = σ' := by
  induction h with
  | z => rfl
  | s _ ih => rw [List.set_cons_succ, ih]

/-! what is asked behind a part, by name -/
def kB (Q : Bool → Hp → Prop) (x : V) (H : Hp) : Prop := ∃ k, x = .bl k ∧ Q k H
def kAnd (Q : VK) (tb : TE) (σ : L2.St) (x : V) (H : Hp) : Prop := ∃ c, x = .bl c ∧ if c = true then tb σ H Q else Q (.bl false) H
def kOr (Q : VK) (tb : TE) (σ : L2.St) (x : V) (H : Hp) : Prop := ∃ c, x = .bl c ∧ if c = true then Q (.bl true) H else tb σ H Q
def kNot (Q : VK) (x : V) (H : Hp) : Prop := ∃ c, x = .bl c ∧ Q (.bl (!c)) H
def kLst (Q : VK) (xs : List V) (H : Hp) : Prop := xs.length ≤ sizeLine ∧ ∀ p, H p = none → Q (.ref p) (upd H p (.lst xs))
def kTup (Q : VK) (xs : List V) (H : Hp) : Prop := xs.length ≤ sizeLine ∧ ∀ p, H p = none → Q (.ref p) (upd H p (.tup xs))
def kFld (K : PySem.W.Frag) (f : Str) (Q : VK) (x : V) (H : Hp) : Prop := ∃ a C dx fs v, x = .ref a ∧ H a = some (.ins C dx fs) ∧ Cls K C ∧ NoAttr K C f ∧ fs.lookup f = some v ∧ Q v H
def kSFld (K : PySem.W.Frag) (f : Str) (P : Hp → Prop) (y x : V) (H : Hp) : Prop := ∃ a C dx fs, x = .ref a ∧ H a = some (.ins C dx fs) ∧ Cls K C ∧ NoAttr K C f ∧ fs.length < 1000 ∧ P (upd H a (.ins C dx (putF f y fs)))
def kPar (nx : L2.St → Hp → Prop) (σ : L2.St) (i j : Nat) (vs : List V) (H : Hp) : Prop := ∃ v w, vs = [v, w] ∧ nx ((σ.set i (some v)).set j (some w)) H

/-! one step each -/
section
variable {σ σ' : L2.St} {H : Hp} {Q : VK} {nx : L2.St → Hp → Prop} {rt : VK} {bk ct : L2.St → Hp → Prop} {ta tb te : TE} {t u : TS} {c : TT} {i j : Int} {x y : V} {K : PySem.W.Frag} {a C dx : Addr} {fs : List (Str × V)} {f : Str} {v : V}
theorem g_seq (h : t ⟨fun σ H => u ⟨nx, rt, bk, ct⟩ σ H, rt, bk, ct⟩ σ H) : tSeq t u ⟨nx, rt, bk, ct⟩ σ H := h
theorem g_next (h : nx σ H) : tNext ⟨nx, rt, bk, ct⟩ σ H := h
theorem g_asg {i : Nat} (h : te σ H fun x H1 => nx (σ.set i (some x)) H1) : tAsg te (gName i) ⟨nx, rt, bk, ct⟩ σ H := h
theorem g_set {i : Nat} {P : L2.St → Hp → Prop} (s : SetS σ i x σ') (h : P σ' H) : P (σ.set i (some x)) H := by rw [s.eq]; exact h
theorem g_ret (h : te σ H rt) : tRet te ⟨nx, rt, bk, ct⟩ σ H := h
theorem g_retN (h : rt .non H) : tRetN ⟨nx, rt, bk, ct⟩ σ H := h
theorem g_drop (h : te σ H fun _ H1 => nx σ H1) : tDrop te ⟨nx, rt, bk, ct⟩ σ H := h
theorem g_if (h : c σ H fun b H1 => if b = true then t ⟨nx, rt, bk, ct⟩ σ H1 else u ⟨nx, rt, bk, ct⟩ σ H1) : tIfS c t u ⟨nx, rt, bk, ct⟩ σ H := h
theorem g_var {i : Nat} (h : σ[i]? = some (some v)) (q : Q v H) : tVar i σ H Q := ⟨v, h, q⟩
theorem g_c (q : Q v H) : tC v σ H Q := q
theorem g_op {r : R2} (h : ta σ H fun x H1 => tb σ H1 fun y H2 => r x y H2 Q) : tOp r ta tb σ H Q := h
theorem g_un {r : V → Hp → VK → Prop} (h : ta σ H fun x H1 => r x H1 Q) : tUn r ta σ H Q := h
theorem g_I0 {g : Int → Int → V} (q : Q (g i j) H) : rI0 g (.int i) (.int j) H Q := ⟨i, j, rfl, rfl, q⟩
theorem g_I {D : Int → Int → Prop} {g : Int → Int → V} (d : D i j) (q : Q (g i j) H) : rI D g (.int i) (.int j) H Q := ⟨i, j, rfl, rfl, d, q⟩
theorem g_U {g : Int → V} (q : Q (g i) H) : rU g (.int i) H Q := ⟨i, rfl, q⟩
theorem g_eqI (q : Q (.bl (decide (i = j))) H) : rEq (.int i) (.int j) H Q := ⟨rfl, by
  have e : decide (V.int i = V.int j) = decide (i = j) := by rw [dec_int]; rfl
  rw [e]; exact q⟩
theorem g_neI (q : Q (.bl (!decide (i = j))) H) : rNe (.int i) (.int j) H Q := ⟨rfl, by
  have e : decide (V.int i = V.int j) = decide (i = j) := by rw [dec_int]; rfl
  rw [e]; exact q⟩
theorem g_test {Q : Bool → Hp → Prop} (h : te σ H (kB Q)) : tTest te σ H Q := h
theorem g_tB {Q : Bool → Hp → Prop} (h : te σ H (kB Q)) : tB te σ H Q := h
theorem g_kb {Q : Bool → Hp → Prop} {k : Bool} (q : Q k H) : kB Q (.bl k) H := ⟨k, rfl, q⟩
theorem g_kand {k : Bool} (q : if k = true then tb σ H Q else Q (.bl false) H) : kAnd Q tb σ (.bl k) H := ⟨k, rfl, q⟩
theorem g_kor {k : Bool} (q : if k = true then Q (.bl true) H else tb σ H Q) : kOr Q tb σ (.bl k) H := ⟨k, rfl, q⟩
theorem g_knot {k : Bool} (q : Q (.bl (!k)) H) : kNot Q (.bl k) H := ⟨k, rfl, q⟩
theorem g_tnot {Q : Bool → Hp → Prop} (h : c σ H fun k H1 => Q (!k) H1) : tNot c σ H Q := h
theorem g_tand {d : TT} {Q : Bool → Hp → Prop} (h : c σ H fun k H1 => if k = true then d σ H1 Q else Q false H1) : tAnd c d σ H Q := h
theorem g_tor {d : TT} {Q : Bool → Hp → Prop} (h : c σ H fun k H1 => if k = true then Q true H1 else d σ H1 Q) : tOr c d σ H Q := h
theorem g_andV (h : ta σ H (kAnd Q tb σ)) : tAndV ta tb σ H Q := h
theorem g_orV (h : ta σ H (kOr Q tb σ)) : tOrV ta tb σ H Q := h
theorem g_notV (h : ta σ H (kNot Q)) : tNotV ta σ H Q := h
theorem g_ifE (h : c σ H fun k H1 => if k = true then ta σ H1 Q else tb σ H1 Q) : tIf c ta tb σ H Q := h
theorem g_nil {Q : List V → Hp → Prop} (q : Q [] H) : tNil σ H Q := q
theorem g_cons {tr : TA} {Q : List V → Hp → Prop} (h : ta σ H fun x H1 => tr σ H1 fun xs H2 => Q (x :: xs) H2) : tCons ta tr σ H Q := h
theorem g_cb {r : List V → Hp → VK → Prop} {tr : TA} (h : tr σ H fun vs H1 => r vs H1 Q) : tCB r tr σ H Q := h
theorem g_call {sp : Sp} {E : XK} {tr : TA} (h : tr σ H fun vs H1 => sp vs H1 Q E) : tCall sp [] E tr σ H Q := by
  have e : (fun (vs : List V) (H1 : Hp) => sp (vs ++ []) H1 Q E) = fun vs H1 => sp vs H1 Q E := by
    funext vs H1; rw [List.append_nil]
  show tr σ H fun vs H1 => sp (vs ++ []) H1 Q E
  rw [e]; exact h
theorem g_lst {tr : TA} (h : tr σ H (kLst Q)) : tLst tr σ H Q := h
theorem g_tup {tr : TA} (h : tr σ H (kTup Q)) : tTup tr σ H Q := h
theorem line_of {n : Nat} (h : Nat.ble n 1000 = true) : n ≤ sizeLine := Nat.le_trans (Nat.le_of_ble_eq_true h) (Nat.le_of_lt (small1000 (Nat.le_refl _)))
theorem g_klst {H0 : Hp} {M : Addr → Prop} {l : List Ent} {xs : List V} (S : Sh H0 M H l) (hn : Nat.ble xs.length 1000 = true) (q : ∀ p H', H p = none → Sh H0 M H' ((p, .lst xs, true) :: l) → Q (.ref p) H') : kLst Q xs H := ⟨line_of hn, fun p hp => q p _ hp (S.new hp)⟩
theorem g_ktup {H0 : Hp} {M : Addr → Prop} {l : List Ent} {xs : List V} (S : Sh H0 M H l) (hn : Nat.ble xs.length 1000 = true) (q : ∀ p H', H p = none → Sh H0 M H' ((p, .tup xs, true) :: l) → Q (.ref p) H') : kTup Q xs H := ⟨line_of hn, fun p hp => q p _ hp (S.new hp)⟩
theorem g_fld (h : ta σ H (kFld K f Q)) : tFld K ta f σ H Q := h
theorem g_kfld (ho : H a = some (.ins C dx fs)) (hc : Cls K C) (hn : NoAttr K C f) (hl : fs.lookup f = some v) (q : Q v H) : kFld K f Q (.ref a) H :=
  ⟨a, C, dx, fs, v, rfl, ho, hc, hn, hl, q⟩
theorem g_sfld {tv : TE} (h : tv σ H fun y H1 => ta σ H1 (kSFld K f (nx σ) y)) : sFld K ta tv f ⟨nx, rt, bk, ct⟩ σ H := h
theorem g_ksfld {H0 : Hp} {M : Addr → Prop} {l l' : List Ent} {P : Hp → Prop} (S : Sh H0 M H l) (r : Rep l a (.ins C dx fs) (.ins C dx (putF f y fs)) l') (hc : Cls K C) (hn : NoAttr K C f) (hl : fs.length < 1000) (q : ∀ H', Sh H0 M H' l' → P H') : kSFld K f P y (.ref a) H :=
  ⟨a, C, dx, fs, rfl, S.has _ r.mem, hc, hn, hl, q _ (S.put r)⟩
theorem g_ixL {p : Addr} {xs : List V} (h : H p = some (.lst xs)) (ha : atI xs i = some v) (q : Q v H) : rIxL K (.ref p) (.int i) H Q := ⟨p, xs, i, v, rfl, rfl, SqL.of h, ha, q⟩
theorem g_ixQ {p : Addr} {xs : List V} (h : SqL K H p xs) (ha : atI xs i = some v) (q : Q v H) : rIxL K (.ref p) (.int i) H Q := ⟨p, xs, i, v, rfl, rfl, h, ha, q⟩
theorem g_sub {to ti : TE} {s : TSet} (h : te σ H fun x H1 => to σ H1 fun o H2 => ti σ H2 fun i H3 => s o i x H3 fun H4 => nx σ H4) : tAsg te (gSub to ti s) ⟨nx, rt, bk, ct⟩ σ H := h
theorem g_setL {H0 : Hp} {M : Addr → Prop} {l l' : List Ent} {P : Hp → Prop} {p : Addr} {xs : List V} {j : Nat} (S : Sh H0 M H l) (r : Rep l p (.lst xs) (.lst (xs.set j v)) l') (hj : ixN xs.length i = some j) (q : ∀ H', Sh H0 M H' l' → P H') :
    rSetL (.ref p) (.int i) v H P := ⟨p, xs, i, j, rfl, rfl, S.has _ r.mem, hj, q _ (S.put r)⟩
theorem g_par {i j : Nat} {tr : TA} (h : tr σ H (kPar nx σ i j)) : tPar i j tr ⟨nx, rt, bk, ct⟩ σ H := h
theorem g_kpar {i j : Nat} {σ2 : L2.St} (s : SetS σ i x σ') (s2 : SetS σ' j y σ2) (q : nx σ2 H) : kPar nx σ i j [x, y] H := ⟨x, y, rfl, by rw [s.eq, s2.eq]; exact q⟩
end

/-! the slots at the entry -/
inductive Ent0 : List Str → List V → L2.St → Prop where
  | nil : Ent0 [] [] []
  | val {x : Str} {N : List Str} {v : V} {vs : List V} {σ : L2.St} : Ent0 N vs σ → Ent0 (x :: N) (v :: vs) (some v :: σ)
  | non {x : Str} {N : List Str} {σ : L2.St} : Ent0 N [] σ → Ent0 (x :: N) [] (none :: σ)
theorem Ent0.eq {N : List Str} {vs : List V} {σ : L2.St} (h : Ent0 N vs σ) : L2.start N vs = σ := by
  induction h with
  | nil => rfl
  | @val x N v vs σ _ ih =>
    have e : (x :: N).length - (v :: vs).length = N.length - vs.length := by simp
    unfold L2.start at ih ⊢
    rw [e, List.map_cons, List.cons_append, ih]
  | @non x N σ _ ih =>
    unfold L2.start at ih ⊢
    simp only [List.map_nil, List.nil_append, List.length_cons, List.length_nil, Nat.sub_zero, List.replicate_succ] at ih ⊢
    rw [ih]
theorem g_start {N : List Str} {vs : List V} {σ : L2.St} {P : L2.St → Hp → Prop} {H : Hp} (h : Ent0 N vs σ) (q : P σ H) : P (L2.start N vs) H := by rw [h.eq]; exact q

theorem cdivw {i j : Int} (h1 : 1 ≤ j) (h2 : j ≤ 10 ^ 60) : CDivW i j := by
  refine wide_div (b := 200) (by omega) ?_ (by decide) (by decide)
  have e : ((j.natAbs : Nat) : Int) = j := Int.natAbs_of_nonneg (by omega)
  have e2 : ((10 : Int) ^ 60) < 2 ^ 200 := by decide
  have h : ((j.natAbs : Nat) : Int) < ((2 ^ 200 : Nat) : Int) := by
    rw [e]
    exact Int.lt_of_le_of_lt h2 (by decide)
  exact Int.ofNat_lt.mp h
/-! built-ins by named readings -/
def rInt1 : List V → Hp → VK → Prop := fun xs H Q => (∃ i, xs = [.int i] ∧ Q (.int i) H) ∨ ∃ k, xs = [.bl k] ∧ Q (.int (if k then 1 else 0)) H
def rAbs1 : List V → Hp → VK → Prop := fun xs H Q => ∃ i, xs = [.int i] ∧ Q (.int (if i < 0 then -i else i)) H
def rMaxI : List V → Hp → VK → Prop := fun xs H Q => ∃ i j, xs = [.int i, .int j] ∧ Q (.int (if j > i then j else i)) H
def rMinI : List V → Hp → VK → Prop := fun xs H Q => ∃ i j, xs = [.int i, .int j] ∧ Q (.int (if j < i then j else i)) H
def rLenQ (K : PySem.W.Frag) : List V → Hp → VK → Prop := fun xs H Q => ∃ p ys, xs = [.ref p] ∧ (SqL K H p ys ∨ SqT K H p ys) ∧ Q (.int ys.length) H
section
variable {X : Cx} {H : Hp} {Q : VK} {i j : Int} {K : PySem.W.Frag} {p : Addr} {xs : List V}
theorem cl_int : CallR X (.type "int") rInt1 := call_int1
theorem cl_abs : CallR X (.builtin "abs") rAbs1 := call_abs
theorem cl_max (hc : X.calm = true) : CallR X (.builtin "max") rMaxI := call_max2 hc
theorem cl_min (hc : X.calm = true) : CallR X (.builtin "min") rMinI := call_min2 hc
theorem cl_len : CallR X (.builtin "len") (rLenQ X.K) := call_len_seq
theorem g_pow10_2 (q : Q (.int 100) H) : rI CPow (fun i j => .int (i ^ j.toNat)) (.int 10) (.int 2) H Q := by
  refine ⟨10, 2, rfl, rfl, ⟨by decide, by decide, by decide⟩, ?_⟩
  have e : ((10 : Int) ^ (2 : Int).toNat) = 100 := by decide
  show Q (.int ((10 : Int) ^ (2 : Int).toNat)) H
  rw [e]; exact q
theorem g_pow10_3 (q : Q (.int 1000) H) : rI CPow (fun i j => .int (i ^ j.toNat)) (.int 10) (.int 3) H Q := by
  refine ⟨10, 3, rfl, rfl, ⟨by decide, by decide, by decide⟩, ?_⟩
  have e : ((10 : Int) ^ (3 : Int).toNat) = 1000 := by decide
  show Q (.int ((10 : Int) ^ (3 : Int).toNat)) H
  rw [e]; exact q
theorem g_pow10_4 (q : Q (.int 10000) H) : rI CPow (fun i j => .int (i ^ j.toNat)) (.int 10) (.int 4) H Q := by
  refine ⟨10, 4, rfl, rfl, ⟨by decide, by decide, by decide⟩, ?_⟩
  have e : ((10 : Int) ^ (4 : Int).toNat) = 10000 := by decide
  show Q (.int ((10 : Int) ^ (4 : Int).toNat)) H
  rw [e]; exact q
theorem g_pow10_5 (q : Q (.int 100000) H) : rI CPow (fun i j => .int (i ^ j.toNat)) (.int 10) (.int 5) H Q := by
  refine ⟨10, 5, rfl, rfl, ⟨by decide, by decide, by decide⟩, ?_⟩
  have e : ((10 : Int) ^ (5 : Int).toNat) = 100000 := by decide
  show Q (.int ((10 : Int) ^ (5 : Int).toNat)) H
  rw [e]; exact q
theorem g_pow10_6 (q : Q (.int 1000000) H) : rI CPow (fun i j => .int (i ^ j.toNat)) (.int 10) (.int 6) H Q := by
  refine ⟨10, 6, rfl, rfl, ⟨by decide, by decide, by decide⟩, ?_⟩
  have e : ((10 : Int) ^ (6 : Int).toNat) = 1000000 := by decide
  show Q (.int ((10 : Int) ^ (6 : Int).toNat)) H
  rw [e]; exact q
theorem g_pow10_7 (q : Q (.int 10000000) H) : rI CPow (fun i j => .int (i ^ j.toNat)) (.int 10) (.int 7) H Q := by
  refine ⟨10, 7, rfl, rfl, ⟨by decide, by decide, by decide⟩, ?_⟩
  have e : ((10 : Int) ^ (7 : Int).toNat) = 10000000 := by decide
  show Q (.int ((10 : Int) ^ (7 : Int).toNat)) H
  rw [e]; exact q
theorem g_pow10_8 (q : Q (.int 100000000) H) : rI CPow (fun i j => .int (i ^ j.toNat)) (.int 10) (.int 8) H Q := by
  refine ⟨10, 8, rfl, rfl, ⟨by decide, by decide, by decide⟩, ?_⟩
  have e : ((10 : Int) ^ (8 : Int).toNat) = 100000000 := by decide
  show Q (.int ((10 : Int) ^ (8 : Int).toNat)) H
  rw [e]; exact q
theorem g_pow10_9 (q : Q (.int 1000000000) H) : rI CPow (fun i j => .int (i ^ j.toNat)) (.int 10) (.int 9) H Q := by
  refine ⟨10, 9, rfl, rfl, ⟨by decide, by decide, by decide⟩, ?_⟩
  have e : ((10 : Int) ^ (9 : Int).toNat) = 1000000000 := by decide
  show Q (.int ((10 : Int) ^ (9 : Int).toNat)) H
  rw [e]; exact q
theorem g_pow10_10 (q : Q (.int 10000000000) H) : rI CPow (fun i j => .int (i ^ j.toNat)) (.int 10) (.int 10) H Q := by
  refine ⟨10, 10, rfl, rfl, ⟨by decide, by decide, by decide⟩, ?_⟩
  have e : ((10 : Int) ^ (10 : Int).toNat) = 10000000000 := by decide
  show Q (.int ((10 : Int) ^ (10 : Int).toNat)) H
  rw [e]; exact q
theorem g_pow10_11 (q : Q (.int 100000000000) H) : rI CPow (fun i j => .int (i ^ j.toNat)) (.int 10) (.int 11) H Q := by
  refine ⟨10, 11, rfl, rfl, ⟨by decide, by decide, by decide⟩, ?_⟩
  have e : ((10 : Int) ^ (11 : Int).toNat) = 100000000000 := by decide
  show Q (.int ((10 : Int) ^ (11 : Int).toNat)) H
  rw [e]; exact q
theorem g_pow10_12 (q : Q (.int 1000000000000) H) : rI CPow (fun i j => .int (i ^ j.toNat)) (.int 10) (.int 12) H Q := by
  refine ⟨10, 12, rfl, rfl, ⟨by decide, by decide, by decide⟩, ?_⟩
  have e : ((10 : Int) ^ (12 : Int).toNat) = 1000000000000 := by decide
  show Q (.int ((10 : Int) ^ (12 : Int).toNat)) H
  rw [e]; exact q
theorem g_pow10_13 (q : Q (.int 10000000000000) H) : rI CPow (fun i j => .int (i ^ j.toNat)) (.int 10) (.int 13) H Q := by
  refine ⟨10, 13, rfl, rfl, ⟨by decide, by decide, by decide⟩, ?_⟩
  have e : ((10 : Int) ^ (13 : Int).toNat) = 10000000000000 := by decide
  show Q (.int ((10 : Int) ^ (13 : Int).toNat)) H
  rw [e]; exact q
theorem g_pow10_14 (q : Q (.int 100000000000000) H) : rI CPow (fun i j => .int (i ^ j.toNat)) (.int 10) (.int 14) H Q := by
  refine ⟨10, 14, rfl, rfl, ⟨by decide, by decide, by decide⟩, ?_⟩
  have e : ((10 : Int) ^ (14 : Int).toNat) = 100000000000000 := by decide
  show Q (.int ((10 : Int) ^ (14 : Int).toNat)) H
  rw [e]; exact q
theorem g_pow10_15 (q : Q (.int 1000000000000000) H) : rI CPow (fun i j => .int (i ^ j.toNat)) (.int 10) (.int 15) H Q := by
  refine ⟨10, 15, rfl, rfl, ⟨by decide, by decide, by decide⟩, ?_⟩
  have e : ((10 : Int) ^ (15 : Int).toNat) = 1000000000000000 := by decide
  show Q (.int ((10 : Int) ^ (15 : Int).toNat)) H
  rw [e]; exact q
theorem g_pow10_16 (q : Q (.int 10000000000000000) H) : rI CPow (fun i j => .int (i ^ j.toNat)) (.int 10) (.int 16) H Q := by
  refine ⟨10, 16, rfl, rfl, ⟨by decide, by decide, by decide⟩, ?_⟩
  have e : ((10 : Int) ^ (16 : Int).toNat) = 10000000000000000 := by decide
  show Q (.int ((10 : Int) ^ (16 : Int).toNat)) H
  rw [e]; exact q
theorem g_pow10_17 (q : Q (.int 100000000000000000) H) : rI CPow (fun i j => .int (i ^ j.toNat)) (.int 10) (.int 17) H Q := by
  refine ⟨10, 17, rfl, rfl, ⟨by decide, by decide, by decide⟩, ?_⟩
  have e : ((10 : Int) ^ (17 : Int).toNat) = 100000000000000000 := by decide
  show Q (.int ((10 : Int) ^ (17 : Int).toNat)) H
  rw [e]; exact q
theorem g_pow10_18 (q : Q (.int 1000000000000000000) H) : rI CPow (fun i j => .int (i ^ j.toNat)) (.int 10) (.int 18) H Q := by
  refine ⟨10, 18, rfl, rfl, ⟨by decide, by decide, by decide⟩, ?_⟩
  have e : ((10 : Int) ^ (18 : Int).toNat) = 1000000000000000000 := by decide
  show Q (.int ((10 : Int) ^ (18 : Int).toNat)) H
  rw [e]; exact q
theorem g_pow10_19 (q : Q (.int 10000000000000000000) H) : rI CPow (fun i j => .int (i ^ j.toNat)) (.int 10) (.int 19) H Q := by
  refine ⟨10, 19, rfl, rfl, ⟨by decide, by decide, by decide⟩, ?_⟩
  have e : ((10 : Int) ^ (19 : Int).toNat) = 10000000000000000000 := by decide
  show Q (.int ((10 : Int) ^ (19 : Int).toNat)) H
  rw [e]; exact q
theorem g_pow10_20 (q : Q (.int 100000000000000000000) H) : rI CPow (fun i j => .int (i ^ j.toNat)) (.int 10) (.int 20) H Q := by
  refine ⟨10, 20, rfl, rfl, ⟨by decide, by decide, by decide⟩, ?_⟩
  have e : ((10 : Int) ^ (20 : Int).toNat) = 100000000000000000000 := by decide
  show Q (.int ((10 : Int) ^ (20 : Int).toNat)) H
  rw [e]; exact q
theorem g_pow10_21 (q : Q (.int 1000000000000000000000) H) : rI CPow (fun i j => .int (i ^ j.toNat)) (.int 10) (.int 21) H Q := by
  refine ⟨10, 21, rfl, rfl, ⟨by decide, by decide, by decide⟩, ?_⟩
  have e : ((10 : Int) ^ (21 : Int).toNat) = 1000000000000000000000 := by decide
  show Q (.int ((10 : Int) ^ (21 : Int).toNat)) H
  rw [e]; exact q
theorem g_pow10_22 (q : Q (.int 10000000000000000000000) H) : rI CPow (fun i j => .int (i ^ j.toNat)) (.int 10) (.int 22) H Q := by
  refine ⟨10, 22, rfl, rfl, ⟨by decide, by decide, by decide⟩, ?_⟩
  have e : ((10 : Int) ^ (22 : Int).toNat) = 10000000000000000000000 := by decide
  show Q (.int ((10 : Int) ^ (22 : Int).toNat)) H
  rw [e]; exact q
theorem g_pow10_23 (q : Q (.int 100000000000000000000000) H) : rI CPow (fun i j => .int (i ^ j.toNat)) (.int 10) (.int 23) H Q := by
  refine ⟨10, 23, rfl, rfl, ⟨by decide, by decide, by decide⟩, ?_⟩
  have e : ((10 : Int) ^ (23 : Int).toNat) = 100000000000000000000000 := by decide
  show Q (.int ((10 : Int) ^ (23 : Int).toNat)) H
  rw [e]; exact q
theorem g_pow10_24 (q : Q (.int 1000000000000000000000000) H) : rI CPow (fun i j => .int (i ^ j.toNat)) (.int 10) (.int 24) H Q := by
  refine ⟨10, 24, rfl, rfl, ⟨by decide, by decide, by decide⟩, ?_⟩
  have e : ((10 : Int) ^ (24 : Int).toNat) = 1000000000000000000000000 := by decide
  show Q (.int ((10 : Int) ^ (24 : Int).toNat)) H
  rw [e]; exact q
theorem g_pow10_25 (q : Q (.int 10000000000000000000000000) H) : rI CPow (fun i j => .int (i ^ j.toNat)) (.int 10) (.int 25) H Q := by
  refine ⟨10, 25, rfl, rfl, ⟨by decide, by decide, by decide⟩, ?_⟩
  have e : ((10 : Int) ^ (25 : Int).toNat) = 10000000000000000000000000 := by decide
  show Q (.int ((10 : Int) ^ (25 : Int).toNat)) H
  rw [e]; exact q
theorem g_pow10_26 (q : Q (.int 100000000000000000000000000) H) : rI CPow (fun i j => .int (i ^ j.toNat)) (.int 10) (.int 26) H Q := by
  refine ⟨10, 26, rfl, rfl, ⟨by decide, by decide, by decide⟩, ?_⟩
  have e : ((10 : Int) ^ (26 : Int).toNat) = 100000000000000000000000000 := by decide
  show Q (.int ((10 : Int) ^ (26 : Int).toNat)) H
  rw [e]; exact q
theorem g_pow10_27 (q : Q (.int 1000000000000000000000000000) H) : rI CPow (fun i j => .int (i ^ j.toNat)) (.int 10) (.int 27) H Q := by
  refine ⟨10, 27, rfl, rfl, ⟨by decide, by decide, by decide⟩, ?_⟩
  have e : ((10 : Int) ^ (27 : Int).toNat) = 1000000000000000000000000000 := by decide
  show Q (.int ((10 : Int) ^ (27 : Int).toNat)) H
  rw [e]; exact q
theorem g_pow10_28 (q : Q (.int 10000000000000000000000000000) H) : rI CPow (fun i j => .int (i ^ j.toNat)) (.int 10) (.int 28) H Q := by
  refine ⟨10, 28, rfl, rfl, ⟨by decide, by decide, by decide⟩, ?_⟩
  have e : ((10 : Int) ^ (28 : Int).toNat) = 10000000000000000000000000000 := by decide
  show Q (.int ((10 : Int) ^ (28 : Int).toNat)) H
  rw [e]; exact q
theorem g_pow10_29 (q : Q (.int 100000000000000000000000000000) H) : rI CPow (fun i j => .int (i ^ j.toNat)) (.int 10) (.int 29) H Q := by
  refine ⟨10, 29, rfl, rfl, ⟨by decide, by decide, by decide⟩, ?_⟩
  have e : ((10 : Int) ^ (29 : Int).toNat) = 100000000000000000000000000000 := by decide
  show Q (.int ((10 : Int) ^ (29 : Int).toNat)) H
  rw [e]; exact q
theorem g_pow10_30 (q : Q (.int 1000000000000000000000000000000) H) : rI CPow (fun i j => .int (i ^ j.toNat)) (.int 10) (.int 30) H Q := by
  refine ⟨10, 30, rfl, rfl, ⟨by decide, by decide, by decide⟩, ?_⟩
  have e : ((10 : Int) ^ (30 : Int).toNat) = 1000000000000000000000000000000 := by decide
  show Q (.int ((10 : Int) ^ (30 : Int).toNat)) H
  rw [e]; exact q
theorem g_int (q : Q (.int i) H) : rInt1 [.int i] H Q := .inl ⟨i, rfl, q⟩
theorem g_intb {k : Bool} (q : Q (.int (if k then 1 else 0)) H) : rInt1 [.bl k] H Q := .inr ⟨k, rfl, q⟩
theorem g_abs (q : Q (.int (if i < 0 then -i else i)) H) : rAbs1 [.int i] H Q := ⟨i, rfl, q⟩
theorem g_max (q : Q (.int (if j > i then j else i)) H) : rMaxI [.int i, .int j] H Q := ⟨i, j, rfl, q⟩
theorem g_min (q : Q (.int (if j < i then j else i)) H) : rMinI [.int i, .int j] H Q := ⟨i, j, rfl, q⟩
theorem g_lenL (h : SqL K H p xs) (q : Q (.int xs.length) H) : rLenQ K [.ref p] H Q := ⟨p, xs, rfl, .inl h, q⟩
theorem g_lenT (h : SqT K H p xs) (q : Q (.int xs.length) H) : rLenQ K [.ref p] H Q := ⟨p, xs, rfl, .inr h, q⟩
theorem g_lenl (h : H p = some (.lst xs)) (q : Q (.int xs.length) H) : rLenQ K [.ref p] H Q := ⟨p, xs, rfl, .inl (SqL.of h), q⟩
theorem g_lent (h : H p = some (.tup xs)) (q : Q (.int xs.length) H) : rLenQ K [.ref p] H Q := ⟨p, xs, rfl, .inr (.inl (.inl h)), q⟩
end
theorem g_yes {A B : Prop} {k : Bool} (h : k = true) (a : A) : if k = true then A else B := by rw [if_pos h]; exact a
theorem g_no {A B : Prop} {k : Bool} (h : k = false) (b : B) : if k = true then A else B := by rw [h]; exact iteF b
theorem g_two {A B : Prop} {k : Bool} (a : k = true → A) (b : k = false → B) : if k = true then A else B := by
  cases k with
  | true => exact iteT (a rfl)
  | false => exact iteF (b rfl)

/-! a def by its promise, its parameters all given -/
structure Dn (P : Program) (w : World) (K : PySem.W.Frag) (mg : Str → Option Value) (base : Heap) (k : Nat) (a : Addr) (ps : List Str) (sp : Sp) : Prop where
  ex : ∃ fd, FnOk P w K mg base (L2.CX P w) k a fd ps sp ∧ Binds K fd ps []
  kp : PySem.W.keepIn K (.ref a) = true
section
variable {X : Cx} {k : Nat} {f C : Addr} {ps : List Str} {sp : Sp} {E : XK} {x m : Str} {p pos apos : Pos} {e o : Expr} {es : List Expr} {ta : TE} {t : TA}
theorem pe_dn (D : Dn X.prog X.w X.K X.mg X.base k f ps sp) (hr : Room k X.A) (hg : Gl X x) (hm : X.mg x = some (.ref f)) (hx : Passes (L2.CX X.prog X.w) X E) (ha : PA X (e :: es) t) (hdb : (x == ("__debug__" : Str)) = false := by decide)
    (he : starEach (e :: es) X.env = (false, eval e X.env) :: starEach es X.env := by rfl) (hpl : (backTo pos (starEach es X.env)).any (·.1) = false := by rfl) : PE X (.Call (.Name x p) (e :: es) [] pos) (tCall sp [] E t) := by
  obtain ⟨fd, F, b⟩ := D.ex
  exact pe_call F hr hg hm D.kp b .nil hx ha hdb he hpl
/-- a class made by its __init__ -/
structure Mn (P : Program) (w : World) (K : PySem.W.Frag) (mg : Str → Option Value) (base : Heap) (k : Nat) (C : Addr) (ps : List Str) (sp : Sp) : Prop where
  ex : ∃ f fd, FnOk P w K mg base (L2.CX P w) k f fd ps sp ∧ Binds K fd ps [] ∧ Mk K C f
theorem pe_mn (D : Mn X.prog X.w X.K X.mg X.base k C ps sp) (hr : Room (k + 1) X.A) (hg : Gl X x) (hm : X.mg x = some (.ref C)) (hx : Passes (L2.CX X.prog X.w) X E) (ha : PA X (e :: es) t) (hdb : (x == ("__debug__" : Str)) = false := by decide)
    (he : starEach (e :: es) X.env = (false, eval e X.env) :: starEach es X.env := by rfl) (hpl : (backTo pos (starEach es X.env)).any (·.1) = false := by rfl) : PE X (.Call (.Name x p) (e :: es) [] pos) (tMake C sp [] E t) := by
  obtain ⟨f, fd, F, b, M⟩ := D.ex
  exact pe_make M F hr hg hm b .nil hx ha hdb he hpl
end
end AF
/-! operators, properties and methods of own classes -/
namespace AF
open PySem PySem.Spec PyProof.Rows L2
open PySem.W (Looks InstAt findIn isFn subIn selfFirst notFirst looks_findIn looks_subIn)

/-- of what type a value is -/
inductive Kd (H : Hp) : V → Value → Prop where
  | non : Kd H .non (.type "NoneType")
  | bl (b : Bool) : Kd H (.bl b) (.type "bool")
  | int (i : Int) : Kd H (.int i) (.type "int")
  | str (z : Str) : Kd H (.str z) (.type "str")
  | flt (b : UInt64) : Kd H (.flt b) (.type "float")
  | ins {a C dx : Addr} {fs : List (Str × V)} (e : H a = some (.ins C dx fs)) : Kd H (.ref a) (.ref C)
  | lst {a : Addr} {xs : List V} (e : H a = some (.lst xs)) : Kd H (.ref a) (.type "list")
  | tup {a : Addr} {xs : List V} (e : H a = some (.tup xs)) : Kd H (.ref a) (.type "tuple")
  | dK {a : Addr} {kvs : List (Key × V)} (e : H a = some (.dK kvs)) : Kd H (.ref a) (.type "dict")

section
variable {X : Cx} {pins : List (Addr × Obj)} {σ : L2.St} {H : Hp} {s : Shared} {M : Model}
theorem Kd.looks {y : V} {u t : Value} (I : Inv X pins σ H s) (ry : RelV y u) (k : Kd H y t) : Looks M s.heap (typeOf u) t := by
  cases k with
  | non => cases ry; exact .now
  | bl b => cases ry; exact .now
  | int i => obtain ⟨_, rfl⟩ := ry; exact .now
  | str z => obtain ⟨_, rfl⟩ := ry; exact .now
  | flt b => obtain ⟨_, rfl⟩ := ry; exact .now
  | ins e =>
    cases ry
    obtain ⟨mA, J, _⟩ := ins_get I.hok e
    obtain ⟨od, J, _⟩ := J.look
    exact J.type
  | @lst a xs e =>
    cases ry
    obtain ⟨_, _, n, _, h1⟩ := (show ObjOk X.prog X.w H s.heap a (.lst xs) from I.hok a _ e)
    exact (Looks.ld (part := none) h1).andThen .now
  | @tup a xs e =>
    cases ry
    obtain ⟨_, _, _, o, h1, h2, _⟩ := (show ObjOk X.prog X.w H s.heap a (.tup xs) from I.hok a _ e)
    have := (Looks.ld (M := M) (part := none) h1).andThen (f := fun o => pure o.cls) .now
    rw [h2] at this
    exact this
  | @dK a kvs e =>
    cases ry
    obtain ⟨_, _, vs, _, o, es, ep, h1, h2, _⟩ := (show ObjOk X.prog X.w H s.heap a (.dK kvs) from I.hok a _ e)
    have := (Looks.ld (M := M) (part := none) h1).andThen (f := fun o => pure o.cls) .now
    rw [h2.1] at this
    exact this
end

/-! binary operators of an own class, on the left -/
structure Bin (K : PySem.W.Frag) (op : Operator) (C f : Addr) : Prop where
  hc : selfFirst K C = true
  hs : findIn K (.ref C) (PySem.dunder op.info.2) = some (some (.ref f))
  hf : isFn K (.ref f) = true
  hr : ∃ rc, findIn K (.ref C) (dunderR op.info.2) = some rc ∧ (rc = none ∨ ∃ g : Addr, rc = some (.ref g))
/-- a built-in type beside it -/
structure BinT (K : PySem.W.Frag) (op : Operator) (C : Addr) (T : String) : Prop where
  h1 : ∃ fo, findIn K (.type T) (PySem.dunder op.info.2) = some fo
  h2 : ∃ ro, findIn K (.type T) (dunderR op.info.2) = some ro
  hs : subIn K (.type T) (.ref C) = some false
def Beside (K : PySem.W.Frag) (op : Operator) (C : Addr) (t : Value) : Prop := t = .ref C ∨ ∃ T, t = .type T ∧ BinT K op C T
section
variable {prog : Program} {w : World} {A : Around} {E : Value → Shared → Prop} {s : Shared} {K : PySem.W.Frag} {x C f : Addr} {ox : Obj} {od : Option Obj}
theorem bin_left {op : Operator} {b t : Value} {Q : Value → Shared → Prop} (X : K.In s.heap) (I : InstAt s.heap x ox C od) (hb : Looks (model prog w) s.heap (typeOf b) t) (B : Bin K op C f) (hT : Beside K op C t)
    (h : wpAny (model prog w) A (call (.ref f) [.ref x, b]) (PySem.W.CmpBack Q) E s) : wpAny (model prog w) A (binaryOp op (.ref x) b) Q E s := by
  obtain ⟨cd, rest, hcd, hm⟩ := PySem.W.ksp_first B.hc
  obtain ⟨rc, hrc, hrp⟩ := B.hr
  have hs := B.hs
  rcases hi : op.info with ⟨sym, nm⟩
  rw [hi] at hs hrc
  dsimp only at hs hrc
  have one := PySem.W.ksp_try X I hs B.hf h
  rcases hT with e | ⟨T, e, BT⟩
  · subst e
    obtain ⟨hh, g, d, tt, os⟩ := s
    have la : Looks (model prog w) hh (typeOf (.ref x)) (.ref C) := I.type
    have lf : Looks (model prog w) hh (fillsNumberSlot (.ref C) nm) true := PySem.W.fills_K X hcd hm hs
    simp only [binaryOp, hi]
    refine wpAny_holding (wpAny_bind ?_)
    unfold binaryOp1
    refine wpAny_bind (la.at (wpAny_bind (hb.at (wpAny_bind (lf.at ?_)))))
    simp only [beq_self_eq_true, if_true]
    ksp_lk
    refine wpAny_mono one (fun r s' hr' => ?_) fun _ _ e => e
    obtain ⟨v, rfl, hq⟩ := hr'
    ksp_lk
    exact hq
  · subst e
    obtain ⟨fo, h1⟩ := BT.h1
    obtain ⟨ro, h2⟩ := BT.h2
    have hsub := BT.hs
    rw [hi] at h1 h2
    dsimp only at h1 h2
    obtain ⟨hh, g, d, tt, os⟩ := s
    have la : Looks (model prog w) hh (typeOf (.ref x)) (.ref C) := I.type
    have lf : Looks (model prog w) hh (fillsNumberSlot (.ref C) nm) true := PySem.W.fills_K X hcd hm hs
    have lg : Looks (model prog w) hh (fillsNumberSlot (.type T) nm) ((fo.isSome && !isSeqSlot fo) || (ro.isSome && !isSeqSlot ro)) := PySem.W.ksp_fillsT X h1 h2
    have lsub : Looks (model prog w) hh (isSubtype (.type T) (.ref C)) false := looks_subIn X hsub
    have lpy : Looks (model prog w) hh (numberSlotInPython (.ref C) nm) true := PySem.W.ksp_inPy X hs hrc hrp
    have lpt : Looks (model prog w) hh (numberSlotInPython (.type T) nm) false := Looks.of_pure rfl
    have ltk : Looks (model prog w) hh (typeLookup (.type T) (dunderR nm)) ro := looks_findIn X h2
    generalize ((fo.isSome && !isSeqSlot fo) || (ro.isSome && !isSeqSlot ro)) = right at lg
    have hne : (Value.ref C == Value.type T) = false := Bool.eq_false_iff.mpr fun q => by cases beq_iff_eq.mp q
    simp only [binaryOp, hi]
    refine wpAny_holding (wpAny_bind ?_)
    unfold binaryOp1
    refine wpAny_bind (la.at (wpAny_bind (hb.at (wpAny_bind (lf.at ?_)))))
    simp only [hne, Bool.false_eq_true, if_false]
    cases right with
    | false =>
      ksp_lk
      refine wpAny_mono one (fun r s' hr' => ?_) fun _ _ e => e
      obtain ⟨v, rfl, hq⟩ := hr'
      ksp_lk
      exact hq
    | true =>
      ksp_lk
      refine wpAny_mono one (fun r s' hr' => ?_) fun _ _ e => e
      obtain ⟨v, rfl, hq⟩ := hr'
      ksp_lk
      exact hq
end

/-! the readings -/
section
variable {X : Cx} {pins : List (Addr × Obj)} {σ : L2.St} {H : Hp} {s : Shared} {k : Nat} {f C : Addr} {ps : List Str} {sp : Sp} {E : XK} {Q : VK}
/-- behind a call of an own operator's def -/
theorem cmpBack_of {u : Value} {s' : Shared} (h : EP X pins σ Q u s') : PySem.W.CmpBack (EP X pins σ Q) u s' := by
  obtain ⟨v, H', I, r, q⟩ := id h
  cases v with
  | non => cases r; exact h
  | bl b => cases r; exact h
  | int i => obtain ⟨_, rfl⟩ := r; exact h
  | str z => obtain ⟨_, rfl⟩ := r; exact h
  | byt b => obtain ⟨_, rfl⟩ := r; exact h
  | flt b => obtain ⟨_, rfl⟩ := r; exact h
  | ref a => cases r; exact h
  | ty n => cases r; exact h
def rOwn (K : PySem.W.Frag) (op : Operator) (C : Addr) (sp : Sp) (E : XK) : R2 := fun x y H Q => ∃ a dx fs t, x = .ref a ∧ H a = some (.ins C dx fs) ∧ Kd H y t ∧ Beside K op C t ∧ sp [x, y] H Q E
theorem op_own {op : Operator} (D : Dn X.prog X.w X.K X.mg X.base k f ps sp) (B : Bin X.K op C f) (hr : Room k X.A) (hx : Passes (L2.CX X.prog X.w) X E) : OpR X (binaryOp op) (rOwn X.K op C sp E) := by
  intro pins s σ H x y v u Q I rx ry h
  obtain ⟨a, dx, fs, t, rfl, ha, kd, bs, q⟩ := h
  cases rx
  obtain ⟨fd, F, b⟩ := D.ex
  obtain ⟨mA, J, _⟩ := ins_get I.hok ha
  obtain ⟨od, J, _⟩ := J.look
  refine bin_left I.kIn J (kd.looks I ry) B bs ?_
  exact thn (run_fn (us := [.ref a, u]) (vs := [.ref a, y]) F hr b .nil hx I (.cons rfl (.cons ry .nil)) q) fun v s' z => cmpBack_of z
/-- a comparison by an own def -/
structure Cmp (K : PySem.W.Frag) (op : CmpOp) (C f : Addr) : Prop where
  hs : findIn K (.ref C) (cmpInfo op).2.1 = some (some (.ref f))
  hf : isFn K (.ref f) = true
def rCmp (K : PySem.W.Frag) (C : Addr) (sp : Sp) (E : XK) : R2 := fun x y H Q => ∃ a dx fs t, x = .ref a ∧ H a = some (.ins C dx fs) ∧ Kd H y t ∧ notFirst K C t = true ∧ sp [x, y] H Q E
theorem rich_own {op : CmpOp} (D : Dn X.prog X.w X.K X.mg X.base k f ps sp) (B : Cmp X.K op C f) (hr : Room k X.A) (hx : Passes (L2.CX X.prog X.w) X E) : OpR X (richCompare op) (rCmp X.K C sp E) := by
  intro pins s σ H x y v u Q I rx ry h
  obtain ⟨a, dx, fs, t, rfl, ha, kd, bs, q⟩ := h
  cases rx
  obtain ⟨fd, F, b⟩ := D.ex
  obtain ⟨mA, J, _⟩ := ins_get I.hok ha
  obtain ⟨od, J, _⟩ := J.look
  obtain ⟨m, hF⟩ := I.fr
  refine PySem.W.cmp_K (op := op) hr.units0 hF I.ok.mod.kin J (kd.looks I ry) bs B.hs B.hf ?_
  exact thn (run_fn (us := [.ref a, u]) (vs := [.ref a, y]) F hr b .nil hx I (.cons rfl (.cons ry .nil)) q) fun v s' z => cmpBack_of z
theorem cmp_lt (D : Dn X.prog X.w X.K X.mg X.base k f ps sp) (B : Cmp X.K .Lt C f) (hr : Room k X.A) (hx : Passes (L2.CX X.prog X.w) X E) : OpR X (compareOp .Lt) (rCmp X.K C sp E) := rich_own D B hr hx
theorem cmp_le (D : Dn X.prog X.w X.K X.mg X.base k f ps sp) (B : Cmp X.K .LtE C f) (hr : Room k X.A) (hx : Passes (L2.CX X.prog X.w) X E) : OpR X (compareOp .LtE) (rCmp X.K C sp E) := rich_own D B hr hx
theorem cmp_gt (D : Dn X.prog X.w X.K X.mg X.base k f ps sp) (B : Cmp X.K .Gt C f) (hr : Room k X.A) (hx : Passes (L2.CX X.prog X.w) X E) : OpR X (compareOp .Gt) (rCmp X.K C sp E) := rich_own D B hr hx
theorem cmp_ge (D : Dn X.prog X.w X.K X.mg X.base k f ps sp) (B : Cmp X.K .GtE C f) (hr : Room k X.A) (hx : Passes (L2.CX X.prog X.w) X E) : OpR X (compareOp .GtE) (rCmp X.K C sp E) := rich_own D B hr hx
theorem cmp_eq (D : Dn X.prog X.w X.K X.mg X.base k f ps sp) (B : Cmp X.K .Eq C f) (hr : Room k X.A) (hx : Passes (L2.CX X.prog X.w) X E) : OpR X (compareOp .Eq) (rCmp X.K C sp E) := rich_own D B hr hx
end

/-! properties and methods -/
section
variable {X : Cx} {k : Nat} {f C : Addr} {ps : List Str} {sp : Sp} {E : XK} {x m : Str} {p pos apos : Pos} {e o : Expr} {es : List Expr} {ta : TE} {t : TA}
structure Rn (P : Program) (w : World) (K : PySem.W.Frag) (mg : Str → Option Value) (base : Heap) (k : Nat) (C : Addr) (m : Str) (sp : Sp) : Prop where
  ex : ∃ p g fd ps, PropOf K C m p g ∧ FnOk P w K mg base (L2.CX P w) k g fd ps sp ∧ Binds K fd ps []
  cl : Cls K C
theorem pe_pr (D : Rn X.prog X.w X.K X.mg X.base k C m sp) (hr : Room (k + 1) X.A) (he : PE X e ta) (hab : attributeBase e m X.env (eval e X.env) = eval e X.env := by rfl) : PE X (.Attribute e m pos) (tProp C sp [] E0 ta) := by
  obtain ⟨p, g, fd, ps, hp, F, b⟩ := D.ex
  exact pe_prop he D.cl hp F hr b .nil passL hab
structure Hn (P : Program) (w : World) (K : PySem.W.Frag) (mg : Str → Option Value) (base : Heap) (k : Nat) (C : Addr) (m : Str) (sp : Sp) : Prop where
  ex : ∃ f fd ps, FnOk P w K mg base (L2.CX P w) k f fd ps sp ∧ Binds K fd ps [] ∧ Meth K C m f
  cl : Cls K C
theorem pe_dm {pl : Sem Bool} (D : Hn X.prog X.w X.K X.mg X.base k C m sp) (hr : Room k X.A) (hx : Passes (L2.CX X.prog X.w) X E) (he : PE X o ta) (ha : PA X (e :: es) t)
    (hst : starEach (e :: es) X.env = (false, eval e X.env) :: starEach es X.env := by rfl) (hpl : (backTo pos (starEach es X.env)).any (·.1) = false := by rfl)
    (ht : eval (.Call (.Attribute o m apos) (e :: es) [] pos) X.env = (do
      let ov ← eval o X.env
      standAt apos.atName
      let (f, first) ← holding [ov] (getMethod ov m pl)
      callWith pos f first (backTo pos (starEach (e :: es) X.env)) (backToKw pos (keywordEach [] X.env))) := by rfl) :
    PE X (.Call (.Attribute o m apos) (e :: es) [] pos) (tMeth C m sp [] E ta t) := by
  obtain ⟨f, fd, ps, F, b, M⟩ := D.ex
  exact pe_meth he D.cl M F hr b .nil hx ha hst hpl ht
theorem pe_dm0 {pl : Sem Bool} (D : Hn X.prog X.w X.K X.mg X.base k C m sp) (hr : Room k X.A) (hx : Passes (L2.CX X.prog X.w) X E) (he : PE X o ta)
    (ht : eval (.Call (.Attribute o m apos) [] [] pos) X.env = (do
      let ov ← eval o X.env
      standAt apos.atName
      let (f, first) ← holding [ov] (getMethod ov m pl)
      callWith pos f first (backTo pos (starEach [] X.env)) (backToKw pos (keywordEach [] X.env))) := by rfl) :
    PE X (.Call (.Attribute o m apos) [] [] pos) (tMeth C m sp [] E ta tNil) := by
  obtain ⟨f, fd, ps, F, b, M⟩ := D.ex
  exact pe_meth0 he D.cl M F hr b .nil hx ht
end

/-! steps -/
def kProp (C : Addr) (sp : Sp) (E : XK) (Q : VK) (x : V) (H : Hp) : Prop := ∃ a dx fs, x = .ref a ∧ H a = some (.ins C dx fs) ∧ sp [x] H Q E
def kMeth (C : Addr) (m : Str) (sp : Sp) (E : XK) (t : TA) (σ : L2.St) (Q : VK) (x : V) (H : Hp) : Prop := ∃ a dx fs, x = .ref a ∧ H a = some (.ins C dx fs) ∧ fs.lookup m = none ∧ t σ H fun vs H2 => sp (x :: vs) H2 Q E
def kMake (C : Addr) (sp : Sp) (E : XK) (Q : VK) (vs : List V) (H : Hp) : Prop := ∀ x dx, H x = none → H dx = none → dx ≠ x → sp (.ref x :: vs) (upd (upd H dx (.own x)) x (.ins C dx [])) (fun v H2 => v = .non ∧ Q (.ref x) H2) E
section
variable {σ : L2.St} {H : Hp} {Q : VK} {ta : TE} {tr : TA} {C a dx : Addr} {fs : List (Str × V)} {m : Str} {sp : Sp} {E : XK} {y : V} {K : PySem.W.Frag} {op : Operator} {t : Value}
theorem g_prop (h : ta σ H (kProp C sp E Q)) : tProp C sp [] E ta σ H Q := by
  have e : (fun (x : V) (H1 : Hp) => ∃ a dx fs, x = .ref a ∧ H1 a = some (.ins C dx fs) ∧ sp (.ref a :: []) H1 Q E) = kProp C sp E Q := by
    funext x H1
    refine propext ⟨fun ⟨a, dx, fs, e, h, q⟩ => ⟨a, dx, fs, e, h, by rw [e]; exact q⟩, fun ⟨a, dx, fs, e, h, q⟩ => ⟨a, dx, fs, e, h, by rw [← e]; exact q⟩⟩
  show ta σ H _
  rw [e]; exact h
theorem g_kprop (ho : H a = some (.ins C dx fs)) (q : sp [.ref a] H Q E) : kProp C sp E Q (.ref a) H := ⟨a, dx, fs, rfl, ho, q⟩
theorem g_meth (h : ta σ H (kMeth C m sp E tr σ Q)) : tMeth C m sp [] E ta tr σ H Q := by
  have e : (fun (x : V) (H1 : Hp) => ∃ a dx fs, x = .ref a ∧ H1 a = some (.ins C dx fs) ∧ fs.lookup m = none ∧ tr σ H1 fun vs H2 => sp (x :: (vs ++ [])) H2 Q E) = kMeth C m sp E tr σ Q := by
    funext x H1
    simp only [List.append_nil]
    rfl
  show ta σ H _
  rw [e]; exact h
theorem g_kmeth (ho : H a = some (.ins C dx fs)) (hl : fs.lookup m = none) (q : tr σ H fun vs H2 => sp (.ref a :: vs) H2 Q E) : kMeth C m sp E tr σ Q (.ref a) H := ⟨a, dx, fs, rfl, ho, hl, q⟩
theorem g_make (h : tr σ H (kMake C sp E Q)) : tMake C sp [] E tr σ H Q := by
  have e : (fun (vs : List V) (H1 : Hp) => ∀ x dx, H1 x = none → H1 dx = none → dx ≠ x → sp (.ref x :: (vs ++ [])) (upd (upd H1 dx (.own x)) x (.ins C dx [])) (fun v H2 => v = .non ∧ Q (.ref x) H2) E) = kMake C sp E Q := by
    funext vs H1
    simp only [List.append_nil]
    rfl
  show tr σ H _
  rw [e]; exact h
theorem g_own (ho : H a = some (.ins C dx fs)) (kd : Kd H y t) (b : Beside K op C t) (q : sp [.ref a, y] H Q E) : rOwn K op C sp E (.ref a) y H Q := ⟨a, dx, fs, t, rfl, ho, kd, b, q⟩
theorem g_cmp (ho : H a = some (.ins C dx fs)) (kd : Kd H y t) (b : notFirst K C t = true) (q : sp [.ref a, y] H Q E) : rCmp K C sp E (.ref a) y H Q := ⟨a, dx, fs, t, rfl, ho, kd, b, q⟩
end
end AF
/-! an own operator on the right of an int; != by an own == -/
namespace AF
open PySem PySem.Spec PyProof.Rows L2
open PySem.W (Looks InstAt findIn isFn subIn selfFirst notFirst looks_findIn looks_subIn)

def Declines (y : Addr) : PySem.Spec := fun _ R s => (∃ C dx, s.heap.get? y = some (PySem.W.instObj C dx)) ∧ R (.ok (.ret .notImplemented)) s
theorem add_declines (i : Int) (t : Tok) (y : Addr) : Meets (Builtin.«int.__add__» ⟨[.int i t, .ref y], []⟩) (Declines y) :=
  .of_wp fun prog w A R s h => by
    obtain ⟨hp, g, d, tk, os⟩ := s
    obtain ⟨⟨C, dx, hl⟩, h⟩ := h
    unfold PySem.W.instObj at hl
    wp_walk using AutoSeq1.wpAny_loadPart' hl
    exact ⟨_, rfl, h⟩
theorem sub_declines (i : Int) (t : Tok) (y : Addr) : Meets (Builtin.«int.__sub__» ⟨[.int i t, .ref y], []⟩) (Declines y) :=
  .of_wp fun prog w A R s h => by
    obtain ⟨hp, g, d, tk, os⟩ := s
    obtain ⟨⟨C, dx, hl⟩, h⟩ := h
    unfold PySem.W.instObj at hl
    wp_walk using AutoSeq1.wpAny_loadPart' hl
    exact ⟨_, rfl, h⟩
structure BinR (K : PySem.W.Frag) (op : Operator) (C f : Addr) : Prop where
  hc : selfFirst K C = true
  hs : ∃ g : Addr, findIn K (.ref C) (PySem.dunder op.info.2) = some (some (.ref g))
  hr : findIn K (.ref C) (dunderR op.info.2) = some (some (.ref f))
  hf : isFn K (.ref f) = true
  hb : subIn K (.ref C) (.type "int") = some false
section
variable {prog : Program} {w : World} {A : Around} {E : Value → Shared → Prop} {s : Shared} {K : PySem.W.Frag} {y C f : Addr} {oy : Obj} {od : Option Obj}
/-- an int's own method declines, the right one's is taken -/
theorem bin_right {op : Operator} {i : Int} {t : Tok} {id : String} {Bl : Builtin} {Q : Value → Shared → Prop} (X : K.In s.heap) (I : InstAt s.heap y oy C od) (B : BinR K op C f) (sl : Slot "int" (PySem.dunder op.info.2) id) (fi : fillsNumberSlot (.type "int") op.info.2 = pure true)
    (en : entryFor table id = some Bl) (ar : argsOk id ⟨[.int i t, .ref y], []⟩) (de : Meets (Bl ⟨[.int i t, .ref y], []⟩) (Declines y)) (hy : ∃ C dx, s.heap.get? y = some (PySem.W.instObj C dx))
    (h : wpAny (model prog w) A (call (.ref f) [.ref y, .int i t]) (PySem.W.CmpBack Q) E s) : wpAny (model prog w) A (binaryOp op (.int i t) (.ref y)) Q E s := by
  obtain ⟨cd, rest, hcd, hm⟩ := PySem.W.ksp_first B.hc
  obtain ⟨g', hs⟩ := B.hs
  have hr := B.hr
  rcases hi : op.info with ⟨sym, nm⟩
  rw [hi] at hs hr sl fi
  dsimp only at hs hr sl fi
  have one := PySem.W.ksp_try X I hr B.hf h
  have none1 : wpAny (model prog w) A (tryMethod (.int i t) (PySem.dunder nm) (.ref y)) (fun r s' => r = none ∧ s' = s) E s :=
    wpAny_tryMethod_declines (typeIs_int _ _ _) sl (call_meets sl (typeIs_int _ _ _) en ar de ⟨hy, rfl, rfl, rfl⟩)
  obtain ⟨hh, g, d, tt, os⟩ := s
  have la : Looks (model prog w) hh (typeOf (.int i t)) (.type "int") := Looks.of_pure rfl
  have lb : Looks (model prog w) hh (typeOf (.ref y)) (.ref C) := I.type
  have lf : Looks (model prog w) hh (fillsNumberSlot (.type "int") nm) true := Looks.of_pure fi
  have lg : Looks (model prog w) hh (fillsNumberSlot (.ref C) nm) true := PySem.W.fills_K X hcd hm hs
  have lsub : Looks (model prog w) hh (isSubtype (.ref C) (.type "int")) false := looks_subIn X B.hb
  have lpt : Looks (model prog w) hh (numberSlotInPython (.type "int") nm) false := Looks.of_pure rfl
  have hne : (Value.type "int" == Value.ref C) = false := Bool.eq_false_iff.mpr fun q => by cases beq_iff_eq.mp q
  simp only [binaryOp, hi]
  refine wpAny_holding (wpAny_bind ?_)
  unfold binaryOp1
  refine wpAny_bind (la.at (wpAny_bind (lb.at (wpAny_bind (lf.at ?_)))))
  simp only [hne, Bool.false_eq_true, if_false]
  ksp_lk
  refine wpAny_mono none1 (fun r s' hr' => ?_) fun _ _ e => e
  obtain ⟨rfl, rfl⟩ := hr'
  ksp_lk
  refine wpAny_mono one (fun r s' hr' => ?_) fun _ _ e => e
  obtain ⟨v, rfl, hq⟩ := hr'
  ksp_lk
  exact hq
end

/-! != by an own == -/
structure NeC (K : PySem.W.Frag) (C f : Addr) : Prop where
  hn : findIn K (.ref C) "__ne__" = some (some (.builtin "object.__ne__"))
  hs : findIn K (.ref C) "__eq__" = some (some (.ref f))
  hf : isFn K (.ref f) = true
  ho : PySem.W.mroIn K C (.type "object") = some true
theorem slot_objne : Slot "object" "__ne__" "object.__ne__" :=
  .of (owner := "object") (n := "__ne__") (by rw [typeLookup_type, builtinLookup_eq_fast]; kernel_rfl) (by decide +kernel) (by decide +kernel) (by decide +kernel) (.inl (by decide +kernel)) (by rw [isSubtype_type]; kernel_rfl)
section
variable {prog : Program} {w : World} {A : Around} {E : Value → Shared → Prop} {K : PySem.W.Frag} {x C f : Addr} {ox : Obj} {od : Option Obj}
theorem objne_body {b : Value} {hh : Heap} {g : Array GenState} {d : Drawn} {tt : Nat} {os : OsState} {Q : Fin → Shared → Prop} (hu : A.units < cLine)
    (h : wpAny (model prog w) A (callSpecialIfBound? (.ref x) "__eq__" [b]) (fun r s' => ∃ k, r = some (.bool k) ∧ Q (.done (.ret (.bool (!k)))) s') E ⟨hh, g, d, tt, os⟩) :
    wpAny (model prog w) A (Builtin.«object.__ne__» ⟨[.ref x, b], []⟩) Q E ⟨hh, g, d, tt, os⟩ := by
  unfold Builtin.«object.__ne__»
  repeat (first | with_reducible refine wpAny_cRoomFor hu ?_ | (with_reducible refine wpAny_mono h (fun r s' hr => ?_) fun _ _ e => e) | wp_step)
  obtain ⟨k, rfl, q⟩ := hr
  obtain ⟨hp, g, d, tk, os⟩ := s'
  repeat wp_step
  exact q
theorem rich_ne {b t : Value} {hh : Heap} {g : Array GenState} {d : Drawn} {tt : Nat} {os : OsState} {Q : Value → Shared → Prop} (hu : A.units + 1 < cLine) (X : K.In hh) (I : InstAt hh x ox C od) (hb : Looks (model prog w) hh (typeOf b) t)
    (hn : notFirst K C t = true) (B : NeC K C f) (h : wpAny (model prog w) A.in1 (call (.ref f) [.ref x, b]) (fun v s' => ∃ k, v = .bool k ∧ Q (.bool (!k)) s') E ⟨hh, g, d, tt, os⟩) :
    wpAny (model prog w) A (richCompare .NotEq (.ref x) b) Q E ⟨hh, g, d, tt, os⟩ := by
  have hu0 : A.units < cLine := Nat.lt_of_succ_lt hu
  have call2 : wpAny (model prog w) A (call (.builtin "object.__ne__") [.ref x, b]) (fun v s' => v ≠ .notImplemented ∧ Q v s') E ⟨hh, g, d, tt, os⟩ := by
    refine wpAny_call (codeAny_call_builtin slot_objne.plain PySem.F.cmpEntry_ne (@PySem.W.check_slot (model prog w) _ _ ⟨hh, g, d, tt, os⟩ "object.__ne__" "object" "__ne__" (.ref x) [b] [] _ PySem.F.cmpKind_ne PySem.F.cmpSplit_ne
      (I.type.andThen (PySem.W.looks_mroIn X B.ho)) (PySem.F.cmpArgs_ne _ _) ?_))
    refine objne_body (show A.in1.units < cLine from hu) (PySem.W.ifBound_K X I B.hs B.hf (wpAny_mono h (fun v s' z => ?_) fun _ _ e => e))
    obtain ⟨k, rfl, q⟩ := z
    exact ⟨k, rfl, (fun z => nomatch z), q⟩
  have one : wpAny (model prog w) A (tryCompare (.ref x) "__ne__" b) (fun r s' => ∃ v, r = some v ∧ Q v s') E ⟨hh, g, d, tt, os⟩ := by
    have lt : Looks (model prog w) hh (typeLookup (.ref C) "__ne__") (some (.builtin "object.__ne__")) := looks_findIn X B.hn
    have fin : wpAny (model prog w) A (call (.builtin "object.__ne__") ([.ref x] ++ [b]) >>= fun v => pure (some v)) (fun r s' => ∃ v, r = some v ∧ v ≠ .notImplemented ∧ Q v s') E ⟨hh, g, d, tt, os⟩ :=
      wpAny_bind (wpAny_mono call2 (fun v s' h' => wpAny_pure ⟨v, rfl, h'⟩) fun _ _ h' => h')
    have sp : wpAny (model prog w) A (callSpecialIfBound? (.ref x) "__ne__" [b]) (fun r s' => ∃ v, r = some v ∧ v ≠ .notImplemented ∧ Q v s') E ⟨hh, g, d, tt, os⟩ := by
      simp only [callSpecialIfBound?, bindSpecialIfBound?]
      refine wpAny_holding (wpAny_bind (wpAny_bind (wpAny_bind (I.type.here (lt.here ?_)))))
      simp only [slot_objne.bind]
      refine wpAny_bind (wpAny_askSetting (wpAny_ite ?_))
      split
      · exact wpAny_bind (wpAny_pure (wpAny_pure fin))
      · exact wpAny_tryCatch (wpAny_bind (wpAny_pure (wpAny_pure fin)))
    unfold tryCompare
    refine wpAny_bind (wpAny_mono sp (fun r s' z => ?_) fun _ _ e => e)
    obtain ⟨v, rfl, hv, q⟩ := z
    cases v <;> first | exact absurd rfl hv | exact wpAny_pure ⟨_, rfl, q⟩
  unfold richCompare
  simp only [oneThing_ref, cmpInfo_NotEq]
  refine wpAny_holding (wpAny_bind (wpAny_cRoomFor hu0 ?_))
  refine wpAny_bind (I.type.here (wpAny_bind (hb.here ?_)))
  split
  · rename_i q
    have e : subIn K t (.ref C) = some false := by
      rcases Bool.or_eq_true_iff.mp hn with e | e
      · rw [beq_iff_eq.mp e] at q; simp at q
      · exact beq_iff_eq.mp e
    refine wpAny_bind ((looks_subIn X e).here ?_)
    simp only [Bool.false_eq_true, if_false]
    refine wpAny_bind (wpAny_mono one (fun r s' z => ?_) fun _ _ e => e)
    obtain ⟨v, rfl, hq⟩ := z
    exact wpAny_pure hq
  · refine wpAny_bind (wpAny_pure ?_)
    simp only [Bool.false_eq_true, if_false]
    refine wpAny_bind (wpAny_mono one (fun r s' z => ?_) fun _ _ e => e)
    obtain ⟨v, rfl, hq⟩ := z
    exact wpAny_pure hq
end

section
variable {X : Cx} {pins : List (Addr × Obj)} {σ : L2.St} {H : Hp} {s : Shared} {k : Nat} {f C : Addr} {ps : List Str} {sp : Sp} {E : XK} {Q : VK}
def rRight (C : Addr) (sp : Sp) (E : XK) : R2 := fun x y H Q => ∃ i a dx fs, x = .int i ∧ y = .ref a ∧ H a = some (.ins C dx fs) ∧ sp [y, x] H Q E
theorem op_right_add (D : Dn X.prog X.w X.K X.mg X.base k f ps sp) (B : BinR X.K .Add C f) (hr : Room k X.A) (hx : Passes (L2.CX X.prog X.w) X E) : OpR X (binaryOp .Add) (rRight C sp E) := by
  intro pins s σ H x y v u Q I rx ry h
  obtain ⟨i, a, dx, fs, rfl, rfl, ha, q⟩ := h
  obtain ⟨t, rfl⟩ := rx
  cases ry
  obtain ⟨fd, F, b⟩ := D.ex
  obtain ⟨_, _, _, hy, _⟩ := (show ObjOk X.prog X.w H s.heap a (.ins C dx fs) from I.hok a _ ha)
  obtain ⟨mA, J, _⟩ := ins_get I.hok ha
  obtain ⟨od, J, _⟩ := J.look
  refine bin_right I.kIn J B PySem.F.slot_int_add PySem.F.fills_int_add PySem.F.entry_int_add (PySem.F.args_int_add_2 _ _) (add_declines _ _ _) ⟨_, _, hy⟩ ?_
  exact thn (run_fn (us := [.ref a, .int i t]) (vs := [.ref a, .int i]) F hr b .nil hx I (.cons rfl (.cons ⟨t, rfl⟩ .nil)) q) fun v s' z => cmpBack_of z
theorem op_right_sub (D : Dn X.prog X.w X.K X.mg X.base k f ps sp) (B : BinR X.K .Sub C f) (hr : Room k X.A) (hx : Passes (L2.CX X.prog X.w) X E) : OpR X (binaryOp .Sub) (rRight C sp E) := by
  intro pins s σ H x y v u Q I rx ry h
  obtain ⟨i, a, dx, fs, rfl, rfl, ha, q⟩ := h
  obtain ⟨t, rfl⟩ := rx
  cases ry
  obtain ⟨fd, F, b⟩ := D.ex
  obtain ⟨_, _, _, hy, _⟩ := (show ObjOk X.prog X.w H s.heap a (.ins C dx fs) from I.hok a _ ha)
  obtain ⟨mA, J, _⟩ := ins_get I.hok ha
  obtain ⟨od, J, _⟩ := J.look
  refine bin_right I.kIn J B PySem.F.slot_int_sub PySem.F.fills_int_sub PySem.F.entry_int_sub (PySem.F.args_int_sub_2 _ _) (sub_declines _ _ _) ⟨_, _, hy⟩ ?_
  exact thn (run_fn (us := [.ref a, .int i t]) (vs := [.ref a, .int i]) F hr b .nil hx I (.cons rfl (.cons ⟨t, rfl⟩ .nil)) q) fun v s' z => cmpBack_of z
theorem g_right {i : Int} {a dx : Addr} {fs : List (Str × V)} (ho : H a = some (.ins C dx fs)) (q : sp [.ref a, .int i] H Q E) : rRight C sp E (.int i) (.ref a) H Q := ⟨i, a, dx, fs, rfl, rfl, ho, q⟩
/-- != : the own == gives a truth, its opposite comes out -/
def rNeq (K : PySem.W.Frag) (C : Addr) (sp : Sp) (E : XK) : R2 := fun x y H Q => ∃ a dx fs t, x = .ref a ∧ H a = some (.ins C dx fs) ∧ Kd H y t ∧ notFirst K C t = true ∧ sp [x, y] H (fun v H' => ∃ b, v = .bl b ∧ Q (.bl (!b)) H') E
theorem cmp_neq (D : Dn X.prog X.w X.K X.mg X.base k f ps sp) (B : NeC X.K C f) (hr : Room (k + 1) X.A) (hx : Passes (L2.CX X.prog X.w) X E) : OpR X (compareOp .NotEq) (rNeq X.K C sp E) := by
  intro pins s σ H x y v u Q I rx ry h
  obtain ⟨a, dx, fs, t, rfl, ha, kd, bs, q⟩ := h
  cases rx
  obtain ⟨fd, F, b⟩ := D.ex
  obtain ⟨mA, J, _⟩ := ins_get I.hok ha
  obtain ⟨od, J, _⟩ := J.look
  have lb := kd.looks (M := model X.prog X.w) I ry
  show wpAny (model X.prog X.w) X.A (richCompare .NotEq (.ref a) u) (EP X pins σ Q) X.xe s
  have hl := F.len _ _ _ _ q
  have rv : Vals [V.ref a, y] [Value.ref a, u] := .cons rfl (.cons ry .nil)
  have run : wpAny (model X.prog X.w) X.A.in1 (call (.ref f) [.ref a, u]) (fun v s' => ∃ k, v = .bool k ∧ EP X pins σ Q (.bool (!k)) s') X.xe s := by
    refine wpAny_call (codeAny_mono (F.run X.A.in1 X.stack s H ⟨[.ref a, u], []⟩ [.ref a, u] [.ref a, y] _ E hr.in1 I.env0.in1 (by
      have := b s [.ref a, u] I.kIn (by simpa using hl)
      simpa using this) rv q) fun r s' hq => ?_)
    cases r with
    | error e => exact hx pins σ H s e s' I hq
    | ok fl =>
      cases fl with
      | ret w =>
        obtain ⟨z, H', I', rz, b', ez, q'⟩ := I.after hq
        subst ez
        cases rz
        exact ⟨b', rfl, .bl (!b'), H', I', rfl, q'⟩
      | next => exact False.elim hq
      | brk => exact False.elim hq
      | cont => exact False.elim hq
  obtain ⟨hh, g, d, tt, os⟩ := s
  exact rich_ne (hu_of hr) I.kIn J lb bs B run
theorem g_neq {a dx : Addr} {fs : List (Str × V)} {y : V} {t : Value} {K : PySem.W.Frag} (ho : H a = some (.ins C dx fs)) (kd : Kd H y t) (b : notFirst K C t = true) (q : sp [.ref a, y] H (kNot Q) E) : rNeq K C sp E (.ref a) y H Q :=
  ⟨a, dx, fs, t, rfl, ho, kd, b, q⟩
end
end AF
/-! further steps -/
namespace AF
open PySem PySem.Spec PyProof.Rows L2
def kChain (r' : R2) (tc : TE) (σ : L2.St) (y : V) (Q : VK) (z : V) (H : Hp) : Prop := ∃ k, z = .bl k ∧ (if k = true then tc σ H fun w' H4 => r' y w' H4 Q else Q (.bl false) H)
section
variable {σ : L2.St} {H : Hp} {Q : VK} {ta tb tc : TE} {r r' : R2} {x y c : V} {K : PySem.W.Frag} {t u : Value} {b k : Bool}
theorem g_chain (h : ta σ H fun x H1 => tb σ H1 fun y H2 => r x y H2 (kChain r' tc σ y Q)) : tChain r r' ta tb tc σ H Q := h
theorem g_kchain (q : if k = true then tc σ H fun w' H4 => r' y w' H4 Q else Q (.bl false) H) : kChain r' tc σ y Q (.bl k) H := ⟨k, rfl, q⟩
theorem g_isi (cv : ClsV c u) (ty : TyX K H x t) (e : PySem.W.kitOne K t u = some b) (q : Q (.bl b) H) : rIsi K [x, c] H Q := ⟨x, c, t, u, b, rfl, cv, ty, e, q⟩
theorem dp_int {i j : Int} (h : i = j) : Dp K H (.int i) (.int j) := by rw [h]; exact .int j
theorem dp_bl {i j : Bool} (h : i = j) : Dp K H (.bl i) (.bool j) := by rw [h]; exact .bl j
theorem dp_lst {a : Addr} {xs : List V} {ds : List PyData} (h : H a = some (.lst xs)) (q : DpAll K H xs ds) : Dp K H (.ref a) (.list ds) := .lst (SqL.of h) q
theorem dp_tup {a : Addr} {xs : List V} {ds : List PyData} (h : H a = some (.tup xs)) (q : DpAll K H xs ds) : Dp K H (.ref a) (.tuple ds) := .tup (.inl (.inl h)) q
theorem eqv_self {d : PyData} (s : SeqAt.shaped d = true) : PyData.eqv d d = true := SeqAt.eqv_refl_plain d (PySem.PyData.plain_of_canLay0 d (SeqAt.canLay_of_shaped s))
theorem g_neD {d : PyData} (hx : Dp K H x d) (hy : Dp K H y d) (s : SeqAt.shaped d = true) (q : Q (.bl false) H) : rNeD K x y H Q := ⟨d, d, hx, hy, s, s, by rw [eqv_self s]; exact q⟩
theorem g_eqD {d : PyData} (hx : Dp K H x d) (hy : Dp K H y d) (s : SeqAt.shaped d = true) (q : Q (.bl true) H) : rEqD K x y H Q := ⟨d, d, hx, hy, s, s, by rw [eqv_self s]; exact q⟩
end
/-- a new instance comes out, all else stays -/
def New (C : Addr) (fs : List (Str × V)) (H : Hp) (Q : VK) : Prop := ∀ x dx H', H x = none → Ch [] H H' → H' x = some (.ins C dx fs) → Q (.ref x) H'
theorem g_new {H0 : Hp} {M : Addr → Prop} {H : Hp} {l : List Ent} {C : Addr} {fs : List (Str × V)} {Q : VK} (S : Sh H0 M H l) (q : ∀ x dx H', Sh H0 M H' ((x, .ins C dx fs, true) :: l) → Q (.ref x) H') : New C fs H Q :=
  fun x dx H' hn c h => q x dx H' (S.add c hn h)
/-- an object is being made by its __init__ -/
theorem g_kmake {H0 : Hp} {M : Addr → Prop} {H : Hp} {l : List Ent} {C : Addr} {sp : Sp} {E : XK} {Q : VK} {vs : List V} {fs : List (Str × V)} (S : Sh H0 M H l)
    (h : ∀ (x dx : Addr) (H1 : Hp) (Q' : VK), H1 x = some (.ins C dx []) → (∀ H2, Ch [x] H1 H2 → H2 x = some (.ins C dx fs) → Q' .non H2) → sp (.ref x :: vs) H1 Q' E)
    (q : ∀ x dx H', Sh H0 M H' ((x, .ins C dx fs, true) :: l) → Q (.ref x) H') : kMake C sp E Q vs H := by
  intro x dx hx hd ne
  have S1 := (S.new (o := .own x) hd).new (p := x) (o := .ins C dx []) (by rw [upd_ne (Ne.symm ne)]; exact hx)
  refine h x dx _ _ (S1.has_ .here) fun H2 c h2 => ⟨rfl, q x dx H2 ?_⟩
  have S2 := S1.ch1 .here c h2
  refine ⟨S2.fr, fun e he => ?_, ?_, fun e he hm => ?_⟩
  · rcases List.mem_cons.mp he with z | z
    · exact S2.has e (z ▸ List.mem_cons_self)
    · exact S2.has e (List.mem_cons_of_mem _ (List.mem_cons_of_mem _ z))
  · have ap := S2.ap
    simp only [List.map_cons, List.pairwise_cons] at ap ⊢
    exact ⟨fun t ht => ap.1 t (List.mem_cons_of_mem _ ht), ap.2.2⟩
  · rcases List.mem_cons.mp he with z | z
    · exact S2.mu e (z ▸ List.mem_cons_self) hm
    · exact S2.mu e (List.mem_cons_of_mem _ (List.mem_cons_of_mem _ z)) hm
end AF
/-! loops over a range, items at an open place -/
namespace AF
open PySem PySem.Spec PyProof.Rows L2
def kR1 (P : Int → Hp → Prop) (vs : List V) (H : Hp) : Prop := ∃ j : Int, vs = [.int j] ∧ -(2 ^ 62) ≤ j ∧ j < 2 ^ 62 ∧ P j H
/-- a loop over a range of n turns -/
def Loop (n : Nat) (g : TG) (tb : TS) (D : Ends) (σ : L2.St) (H : Hp) : Prop := ∃ W : Nat → Nat → L2.St → Hp → Prop, (∃ m, W 0 m σ H) ∧ ∀ i m σ H, W i m σ H →
  ((Itr 0 n).stop i H ∧ D.nx σ H) ∨ ((Itr 0 n).go i H ∧ ∃ N : L2.St → Hp → Prop, (∀ σ' H', N σ' H' → ∃ m', m' < m ∧ W (i + 1) m' σ' H') ∧ ∀ x H', (Itr 0 n).yld i H x H' → g x σ H' fun σ2 H2 => tb { D with nx := N, ct := N, bk := D.nx } σ2 H2)
section
variable {σ σ' : L2.St} {H : Hp} {Q : VK} {i j : Int} {x y v : V} {K : PySem.W.Frag} {p : Addr} {xs : List V} {ta : TA} {tb : TS} {g : TG} {D : Ends}
theorem g_for1 (h : ta σ H (kR1 fun j H1 => Loop j.toNat g tb D σ H1)) : tFor (iRng1 ta) g tb D σ H := h
theorem g_kR1 {P : Int → Hp → Prop} (h1 : -(2 ^ 62) ≤ j) (h2 : j < 2 ^ 62) (q : P j H) : kR1 P [.int j] H := ⟨j, rfl, h1, h2, q⟩
theorem g_loop {n k : Nat} {nx : L2.St → Hp → Prop} {rt : VK} {bk ct : L2.St → Hp → Prop} (Pv : Nat → L2.St → Hp → Prop) (h0 : Pv 0 σ H)
    (hs : ∀ (i : Nat) σ H, i < n → Pv i σ H → tb ⟨Pv (i + 1), rt, nx, Pv (i + 1)⟩ (σ.set k (some (.int (i : Int)))) H) (hd : ∀ σ H, Pv n σ H → nx σ H) : Loop n (gName k) tb ⟨nx, rt, bk, ct⟩ σ H :=
  for_range (lo := 0) (n := n) (D := ⟨nx, rt, bk, ct⟩) Pv h0 (fun i σ H hi p => by
    have e : (0 : Int) + (i : Int) = (i : Int) := Int.zero_add _
    show tb ⟨Pv (i + 1), rt, nx, Pv (i + 1)⟩ (σ.set k (some (.int ((0 : Int) + (i : Int))))) H
    rw [e]
    exact hs i σ H hi p) hd
theorem g_absN (q : ∀ j : Int, 0 ≤ j → Q (.int j) H) : rAbs1 [.int i] H Q := ⟨i, rfl, q _ (by split <;> omega)⟩
theorem g_maxN (q : ∀ z : Int, i ≤ z → j ≤ z → (z = i ∨ z = j) → Q (.int z) H) : rMaxI [.int i, .int j] H Q := ⟨i, j, rfl, q _ (by split <;> omega) (by split <;> omega) (by split <;> simp)⟩
theorem g_minN (q : ∀ z : Int, z ≤ i → z ≤ j → (z = i ∨ z = j) → Q (.int z) H) : rMinI [.int i, .int j] H Q := ⟨i, j, rfl, q _ (by split <;> omega) (by split <;> omega) (by split <;> simp)⟩
theorem atI_some {α : Type} {xs : List α} (h0 : 0 ≤ i) (h1 : i < xs.length) : ∃ v, v ∈ xs ∧ atI xs i = some v := by
  obtain ⟨k, rfl⟩ : ∃ k : Nat, i = k := ⟨i.toNat, by omega⟩
  have hk : k < xs.length := by omega
  exact ⟨xs[k], List.getElem_mem hk, atI_nat (List.getElem?_eq_getElem hk)⟩
/-- an item of a list at an open place: what all items have -/
theorem g_ixP {P : V → Prop} (h : H p = some (.lst xs)) (h0 : 0 ≤ i) (h1 : i < xs.length) (hp : ∀ v, v ∈ xs → P v) (q : ∀ v, P v → Q v H) : rIxL K (.ref p) (.int i) H Q := by
  obtain ⟨v, hv, e⟩ := atI_some h0 h1
  exact ⟨p, xs, i, v, rfl, rfl, SqL.of h, e, q v (hp v hv)⟩
/-- .. of ints between two bounds -/
def IntIn (lo hi : Int) (v : V) : Prop := ∃ z, v = .int z ∧ lo ≤ z ∧ z ≤ hi
theorem g_ixI (lo hi : Int) (h : H p = some (.lst xs)) (h0 : 0 ≤ i) (h1 : i < xs.length) (hp : ∀ v, v ∈ xs → IntIn lo hi v) (q : ∀ z : Int, lo ≤ z → z ≤ hi → Q (.int z) H) : rIxL K (.ref p) (.int i) H Q :=
  g_ixP h h0 h1 hp fun v ⟨z, e, a, b⟩ => by rw [e]; exact q z a b
theorem intIn_nil {lo hi : Int} : ∀ v, v ∈ ([] : List V) → IntIn lo hi v := fun _ h => nomatch h
theorem intIn_cons {lo hi z : Int} {r : List V} (h1 : lo ≤ z) (h2 : z ≤ hi) (h : ∀ v, v ∈ r → IntIn lo hi v) : ∀ v, v ∈ V.int z :: r → IntIn lo hi v := fun v hv => by
  rcases List.mem_cons.mp hv with e | e
  · exact ⟨z, e, h1, h2⟩
  · exact h v e
end
/-! the law's own helpers: a source of drawn numbers -/
def Sd (n s : Int) : Prop := 0 ≤ n ∧ 0 ≤ s ∧ s < 2147483647
def spSource (K : PySem.W.Frag) : Sp := fun vs H Q _ => ∃ (a : Addr) (ns : List Int) (t : Nat), vs = [.ref a, .int (t : Int)] ∧ SqL K H a (ns.map V.int) ∧
  ∀ (q : Addr) (n s : Int) (H' : Hp), H q = none → Ch [] H H' → H' q = some (.lst [.int n, .int s]) → Sd n s → Q (.ref q) H'
def spDraw : Sp := fun vs H Q _ => ∃ (a : Addr) (n s m : Int), vs = [.ref a, .int m] ∧ H a = some (.lst [.int n, .int s]) ∧ Sd n s ∧ 1 ≤ m ∧ m ≤ 10 ^ 60 ∧
  ∀ (d n' s' : Int) (H' : Hp), Ch [a] H H' → H' a = some (.lst [.int n', .int s']) → 0 ≤ d → d < m → Sd n' s' → Q (.int d) H'
/-- a helper that draws and hands out what P says -/
def spGive (P : V → Prop) : Sp := fun vs H Q _ => ∃ (a : Addr) (n s : Int), vs = [.ref a] ∧ H a = some (.lst [.int n, .int s]) ∧ Sd n s ∧
  ∀ (v : V) (n' s' : Int) (H' : Hp), Ch [a] H H' → H' a = some (.lst [.int n', .int s']) → P v → Sd n' s' → Q v H'
section
variable {H0 : Hp} {M : Addr → Prop} {H : Hp} {l : List Ent} {l' : Int → Int → List Ent} {a : Addr} {n s m : Int} {Q : VK} {E : XK} {K : PySem.W.Frag}
theorem use_draw (S : Sh H0 M H l) (r : ∀ n' s', Rep l a (.lst [.int n, .int s]) (.lst [.int n', .int s']) (l' n' s')) (hs : Sd n s) (h1 : 1 ≤ m) (h2 : m ≤ 10 ^ 60)
    (q : ∀ d n' s' H', 0 ≤ d → d < m → Sd n' s' → Sh H0 M H' (l' n' s') → Q (.int d) H') : spDraw [.ref a, .int m] H Q E :=
  ⟨a, n, s, m, rfl, S.has _ (r n s).mem, hs, h1, h2, fun d n' s' H' c h p1 p2 p3 => q d n' s' H' p1 p2 p3 (S.ch1 (r n' s') c h)⟩
theorem use_give {P : V → Prop} (S : Sh H0 M H l) (r : ∀ n' s', Rep l a (.lst [.int n, .int s]) (.lst [.int n', .int s']) (l' n' s')) (hs : Sd n s)
    (q : ∀ v n' s' H', P v → Sd n' s' → Sh H0 M H' (l' n' s') → Q v H') : spGive P [.ref a] H Q E :=
  ⟨a, n, s, rfl, S.has _ (r n s).mem, hs, fun v n' s' H' c h p1 p3 => q v n' s' H' p1 p3 (S.ch1 (r n' s') c h)⟩
theorem use_giveI {lo hi : Int} (S : Sh H0 M H l) (r : ∀ n' s', Rep l a (.lst [.int n, .int s]) (.lst [.int n', .int s']) (l' n' s')) (hs : Sd n s)
    (q : ∀ z n' s' H', lo ≤ z → z ≤ hi → Sd n' s' → Sh H0 M H' (l' n' s') → Q (.int z) H') : spGive (IntIn lo hi) [.ref a] H Q E :=
  use_give S r hs fun v n' s' H' ⟨z, e, h1, h2⟩ hs S' => by rw [e]; exact q z n' s' H' h1 h2 hs S'
theorem use_source {ns : List Int} {t : Nat} (S : Sh H0 M H l) (h : SqL K H a (ns.map V.int)) (q : ∀ b n s H', Sd n s → Sh H0 M H' ((b, .lst [.int n, .int s], true) :: l) → Q (.ref b) H') : spSource K [.ref a, .int (t : Int)] H Q E :=
  ⟨a, ns, t, rfl, h, fun b n s H' hb c hh hs => q b n s H' hs (S.add c hb hh)⟩
end
end AF
/-! the plain steps, found by their heads -/
namespace AF
open PySem PySem.Spec PyProof.Rows L2
class Step (A : Prop) (B : outParam Prop) : Prop where
  go : B → A
class SlotI (σ : L2.St) (i : Nat) (v : outParam V) : Prop where
  at_ : σ[i]? = some (some v)
instance {v : V} {r : L2.St} : SlotI (some v :: r) 0 v := ⟨rfl⟩
instance {o : Option V} {r : L2.St} {i : Nat} {v : V} [h : SlotI r i v] : SlotI (o :: r) (i + 1) v := ⟨by rw [List.getElem?_cons_succ]; exact h.at_⟩
class SetI (σ : L2.St) (i : Nat) (v : V) (σ' : outParam L2.St) : Prop where
  eq : σ.set i (some v) = σ'
instance {o : Option V} {r : L2.St} {v : V} : SetI (o :: r) 0 v (some v :: r) := ⟨rfl⟩
instance {o : Option V} {r r' : L2.St} {i : Nat} {v : V} [h : SetI r i v r'] : SetI (o :: r) (i + 1) v (o :: r') := ⟨by rw [List.set_cons_succ, h.eq]⟩
class StartI (N : List Str) (vs : List V) (σ : outParam L2.St) : Prop where
  en : Ent0 N vs σ
instance : StartI [] [] [] := ⟨.nil⟩
instance {x : Str} {N : List Str} {v : V} {vs : List V} {σ : L2.St} [h : StartI N vs σ] : StartI (x :: N) (v :: vs) (some v :: σ) := ⟨.val h.en⟩
instance {x : Str} {N : List Str} {σ : L2.St} [h : StartI N [] σ] : StartI (x :: N) [] (none :: σ) := ⟨.non h.en⟩
section
variable {σ σ' : L2.St} {H : Hp} {Q : VK} {nx : L2.St → Hp → Prop} {rt : VK} {bk ct : L2.St → Hp → Prop} {ta tb tc te : TE} {t u : TS} {c d : TT} {i j : Int} {x y : V} {K : PySem.W.Frag} {a C dx : Addr} {f m : Str} {v : V} {k : Bool} {tr : TA} {sp : Sp} {E : XK} {QB : Bool → Hp → Prop} {QL : List V → Hp → Prop}
instance : Step (tSeq t u ⟨nx, rt, bk, ct⟩ σ H) (t ⟨fun σ H => u ⟨nx, rt, bk, ct⟩ σ H, rt, bk, ct⟩ σ H) := ⟨g_seq⟩
instance : Step (tNext ⟨nx, rt, bk, ct⟩ σ H) (nx σ H) := ⟨g_next⟩
instance {i : Nat} : Step (tAsg te (gName i) ⟨nx, rt, bk, ct⟩ σ H) (te σ H fun x H1 => nx (σ.set i (some x)) H1) := ⟨g_asg⟩
instance : Step (tRet te ⟨nx, rt, bk, ct⟩ σ H) (te σ H rt) := ⟨g_ret⟩
instance : Step (tRetN ⟨nx, rt, bk, ct⟩ σ H) (rt .non H) := ⟨g_retN⟩
instance : Step (tDrop te ⟨nx, rt, bk, ct⟩ σ H) (te σ H fun _ H1 => nx σ H1) := ⟨g_drop⟩
instance : Step (tIfS c t u ⟨nx, rt, bk, ct⟩ σ H) (c σ H fun b H1 => if b = true then t ⟨nx, rt, bk, ct⟩ σ H1 else u ⟨nx, rt, bk, ct⟩ σ H1) := ⟨g_if⟩
instance {i : Nat} [h : SlotI σ i v] : Step (tVar i σ H Q) (Q v H) := ⟨g_var h.at_⟩
instance : Step (tC v σ H Q) (Q v H) := ⟨g_c⟩
instance {r : R2} : Step (tOp r ta tb σ H Q) (ta σ H fun x H1 => tb σ H1 fun y H2 => r x y H2 Q) := ⟨g_op⟩
instance {r : V → Hp → VK → Prop} : Step (tUn r ta σ H Q) (ta σ H fun x H1 => r x H1 Q) := ⟨g_un⟩
instance {g : Int → Int → V} : Step (rI0 g (.int i) (.int j) H Q) (Q (g i j) H) := ⟨g_I0⟩
instance {g : Int → V} : Step (rU g (.int i) H Q) (Q (g i) H) := ⟨g_U⟩
instance : Step (rEq (.int i) (.int j) H Q) (Q (.bl (decide (i = j))) H) := ⟨g_eqI⟩
instance : Step (rNe (.int i) (.int j) H Q) (Q (.bl (!decide (i = j))) H) := ⟨g_neI⟩
instance : Step (tTest te σ H QB) (te σ H (kB QB)) := ⟨g_test⟩
instance : Step (tB te σ H QB) (te σ H (kB QB)) := ⟨g_tB⟩
instance : Step (kB QB (.bl k) H) (QB k H) := ⟨g_kb⟩
instance : Step (kAnd Q tb σ (.bl k) H) (if k = true then tb σ H Q else Q (.bl false) H) := ⟨g_kand⟩
instance : Step (kOr Q tb σ (.bl k) H) (if k = true then Q (.bl true) H else tb σ H Q) := ⟨g_kor⟩
instance : Step (kNot Q (.bl k) H) (Q (.bl (!k)) H) := ⟨g_knot⟩
instance {r' : R2} : Step (kChain r' tc σ y Q (.bl k) H) (if k = true then tc σ H fun w' H4 => r' y w' H4 Q else Q (.bl false) H) := ⟨g_kchain⟩
instance {r r' : R2} : Step (tChain r r' ta tb tc σ H Q) (ta σ H fun x H1 => tb σ H1 fun y H2 => r x y H2 (kChain r' tc σ y Q)) := ⟨g_chain⟩
instance : Step (tAndV ta tb σ H Q) (ta σ H (kAnd Q tb σ)) := ⟨g_andV⟩
instance : Step (tOrV ta tb σ H Q) (ta σ H (kOr Q tb σ)) := ⟨g_orV⟩
instance : Step (tNotV ta σ H Q) (ta σ H (kNot Q)) := ⟨g_notV⟩
instance : Step (tNot c σ H QB) (c σ H fun k H1 => QB (!k) H1) := ⟨g_tnot⟩
instance : Step (tAnd c d σ H QB) (c σ H fun k H1 => if k = true then d σ H1 QB else QB false H1) := ⟨g_tand⟩
instance : Step (tOr c d σ H QB) (c σ H fun k H1 => if k = true then QB true H1 else d σ H1 QB) := ⟨g_tor⟩
instance : Step (tIf c ta tb σ H Q) (c σ H fun k H1 => if k = true then ta σ H1 Q else tb σ H1 Q) := ⟨g_ifE⟩
instance : Step (tNil σ H QL) (QL [] H) := ⟨g_nil⟩
instance : Step (tCons ta tr σ H QL) (ta σ H fun x H1 => tr σ H1 fun xs H2 => QL (x :: xs) H2) := ⟨g_cons⟩
instance {r : List V → Hp → VK → Prop} : Step (tCB r tr σ H Q) (tr σ H fun vs H1 => r vs H1 Q) := ⟨g_cb⟩
instance : Step (tCall sp [] E tr σ H Q) (tr σ H fun vs H1 => sp vs H1 Q E) := ⟨g_call⟩
instance : Step (tProp C sp [] E ta σ H Q) (ta σ H (kProp C sp E Q)) := ⟨g_prop⟩
instance : Step (tMeth C m sp [] E ta tr σ H Q) (ta σ H (kMeth C m sp E tr σ Q)) := ⟨g_meth⟩
instance : Step (tMake C sp [] E tr σ H Q) (tr σ H (kMake C sp E Q)) := ⟨g_make⟩
instance : Step (rInt1 [.int i] H Q) (Q (.int i) H) := ⟨g_int⟩
instance : Step (rInt1 [.bl k] H Q) (Q (.int (if k then 1 else 0)) H) := ⟨g_intb⟩
instance : Step (tLst tr σ H Q) (tr σ H (kLst Q)) := ⟨g_lst⟩
instance : Step (tTup tr σ H Q) (tr σ H (kTup Q)) := ⟨g_tup⟩
instance {i j : Nat} : Step (tPar i j tr ⟨nx, rt, bk, ct⟩ σ H) (tr σ H (kPar nx σ i j)) := ⟨g_par⟩
instance {i j : Nat} {σ2 : L2.St} [h : SetI σ i x σ'] [h2 : SetI σ' j y σ2] : Step (kPar nx σ i j [x, y] H) (nx σ2 H) := ⟨fun q => ⟨x, y, rfl, by rw [h.eq, h2.eq]; exact q⟩⟩
instance {to ti : TE} {s : TSet} : Step (tAsg te (gSub to ti s) ⟨nx, rt, bk, ct⟩ σ H) (te σ H fun x H1 => to σ H1 fun o H2 => ti σ H2 fun i H3 => s o i x H3 fun H4 => nx σ H4) := ⟨g_sub⟩
instance : Step (tFld K ta f σ H Q) (ta σ H (kFld K f Q)) := ⟨g_fld⟩
instance {tv : TE} : Step (sFld K ta tv f ⟨nx, rt, bk, ct⟩ σ H) (tv σ H fun y H1 => ta σ H1 (kSFld K f (nx σ) y)) := ⟨g_sfld⟩
instance {ta : TA} {g : TG} {D : Ends} : Step (tFor (iRng1 ta) g t D σ H) (ta σ H (kR1 fun j H1 => Loop j.toNat g t D σ H1)) := ⟨g_for1⟩
end
theorem set_go {σ σ' : L2.St} {i : Nat} {v : V} {H : Hp} {A : L2.St → Hp → Prop} [h : SetI σ i v σ'] (q : A σ' H) : A (σ.set i (some v)) H := by rw [h.eq]; exact q
theorem start_go {N : List Str} {vs : List V} {σ : L2.St} {A : L2.St → Hp → Prop} {H : Hp} [h : StartI N vs σ] (q : A σ H) : A (L2.start N vs) H := g_start h.en q
end AF
/-! what the top leaves, looked at once -/
namespace AF
open PySem PySem.Spec PyProof.Rows L2 He
open PySem.W (Frag findIn isFn subIn selfFirst notFirst specialIn takesIn mroIn kitOne keepIn codeIn recIn)

/-- a def, by where it stands -/
structure DA where
  ad : Frag → Addr
  name : Str
  qual : Str
  st : Stmt
  dfl : List Dv := []
  kwd : List (Str × Dv) := []
def seeF (K : Frag) (a : Addr) : FnW := match K.lookup a with
  | some ⟨_, _, .func d, _⟩ => some (d.name, d.qualname, d.params, d.body, d.scope, d.globals, d.closure, d.builtins)
  | _ => none
def DA.want (d : DA) : FnW := some (d.name, d.qual, defArgs d.st, .stmts (defBody d.st), defScope d.st, mainGlobals, [], builtinsNs)
def DA.fine (K : Frag) (d : DA) : Bool := keepIn K (.ref (d.ad K)) && (match K.lookup (d.ad K) with
  | some ⟨_, _, .func fd, _⟩ => codeIn K fd.code d.qual && (dflB K fd.defaults (d.dfl.map (Dv.v K)) && kwdB K fd.kwdefaults (d.kwd.map fun q => (q.1, q.2.v K)))
  | _ => false)
theorem DA.get {K : Frag} {d : DA} (e : seeF K (d.ad K) = d.want) (c : d.fine K = true) :
    ∃ fd, FunD K d.name d.qual (defArgs d.st) (defBody d.st) (defScope d.st) (d.dfl.map (Dv.v K)) (d.kwd.map fun q => (q.1, q.2.v K)) (d.ad K) fd := by
  obtain ⟨kp, c2⟩ := ba c
  unfold seeF at e
  cases q : K.lookup (d.ad K) with
  | none => rw [q] at c2; cases c2
  | some o =>
    obtain ⟨oc, od, dt, osl⟩ := o
    rw [q] at c2 e
    cases dt with
    | func fd =>
      obtain ⟨n1, n2, n3, n4, n5, n6, n7, n8, n9, n10, n11, n12, n13, n14, n15⟩ := fd
      have e2 : (some (n1, n2, n3, n4, n5, n6, n7, n15) : FnW) = some (d.name, d.qual, defArgs d.st, .stmts (defBody d.st), defScope d.st, mainGlobals, [], builtinsNs) := e
      simp only [Option.some.injEq, Prod.mk.injEq] at e2
      obtain ⟨h1, h2, h3, h4, h5, h6, h7, h8⟩ := e2
      subst h1 h2 h3 h4 h5 h6 h7 h8
      obtain ⟨k1, k2⟩ := ba (show (codeIn K n13 d.qual && (dflB K n8 (d.dfl.map (Dv.v K)) && kwdB K n9 (d.kwd.map fun q => (q.1, q.2.v K)))) = true from c2)
      obtain ⟨k3, k4⟩ := ba k2
      exact ⟨_, ⟨oc, od, n8, n9, n10, n11, n12, n13, n14, osl, rfl, q, k1, dflB_ok k3, kwdB_ok k4⟩, kp⟩
    | _ => cases c2
abbrev Seen : Type := Bool × List FnW
def look (fs : Frag → List Bool) (ds : List DA) (K : Frag) : Seen := ((fs K).all id && ds.all fun d => d.fine K, ds.map fun d => seeF K (d.ad K))
def lookW (ds : List DA) : Seen := (true, ds.map DA.want)
def Tells (fs : Frag → List Bool) (ds : List DA) (K : Frag) : Prop := look fs ds K = lookW ds
def lookG (n : Nat) (fs : Frag → List Bool) (ds : List DA) (g : Addr → Option Obj) : Seen := look fs ds (frG g (asD g n))
def hook (n : Nat) (fs : Frag → List Bool) (ds : List DA) : PySem.W.Hook where
  α := Seen
  obs := fun s => lookG n fs ds s.heap.get?
  val := fun _ => lookW ds
  says := fun _ h => ∃ K : Frag, K.In h ∧ Tells fs ds K
  of := fun _ _ e => ⟨_, frG_in, e⟩
  keeps := fun _ _ _ ⟨K, hK, c⟩ k => ⟨K, Frag.In.keeps hK k, c⟩
theorem lookG_eq {n : Nat} {fs : Frag → List Bool} {ds : List DA} {g : Addr → Option Obj} {s : Shared} (h : ∀ a, g a = s.heap.get? a) : lookG n fs ds g = (hook n fs ds).obs s := by
  have e : g = s.heap.get? := funext h
  rw [e]
  rfl
section
variable {fs : Frag → List Bool} {ds : List DA} {K : Frag}
theorem Tells.fact (c : Tells fs ds K) (i : Nat) {b : Bool} (h : (fs K)[i]? = some b := by rfl) : b = true := by
  have c1 := (ba (show ((fs K).all id && ds.all fun d => d.fine K) = true from congrArg (fun z : Seen => z.1) c)).1
  exact List.all_eq_true.mp c1 b (List.mem_of_getElem? h)
theorem Tells.def_ (c : Tells fs ds K) (i : Nat) {d : DA} (h : ds[i]? = some d := by rfl) :
    ∃ fd, FunD K d.name d.qual (defArgs d.st) (defBody d.st) (defScope d.st) (d.dfl.map (Dv.v K)) (d.kwd.map fun q => (q.1, q.2.v K)) (d.ad K) fd := by
  have c2 := (ba (show ((fs K).all id && ds.all fun d => d.fine K) = true from congrArg (fun z : Seen => z.1) c)).2
  have e : ds.map (fun d => seeF K (d.ad K)) = ds.map DA.want := congrArg (fun z : Seen => z.2) c
  have e2 : (ds.map fun d => seeF K (d.ad K))[i]? = (ds.map DA.want)[i]? := by rw [e]
  rw [List.getElem?_map, List.getElem?_map, h] at e2
  exact DA.get (Option.some.inj e2) (List.all_eq_true.mp c2 d (List.mem_of_getElem? h))
end
/-! facts as truths -/
section
variable {K : Frag} {C f : Addr} {op : Operator} {T : String}
def refO : Option Value → Bool
  | some (.ref _) => true
  | none => true
  | _ => false
def refS : Option (Option Value) → Bool
  | some o => refO o
  | none => false
def fnS : Option (Option Value) → Bool
  | some (some (.ref _)) => true
  | _ => false
def binB (K : Frag) (op : Operator) (C f : Addr) : Bool := selfFirst K C && (eqO (findIn K (.ref C) (PySem.dunder op.info.2)) (some (some (.ref f))) && (isFn K (.ref f) && refS (findIn K (.ref C) (dunderR op.info.2))))
theorem binB_ok (h : binB K op C f = true) : Bin K op C f := by
  obtain ⟨h1, h⟩ := ba h
  obtain ⟨h2, h⟩ := ba h
  obtain ⟨h3, h4⟩ := ba h
  refine ⟨h1, eqO_ok h2, h3, ?_⟩
  cases e : findIn K (.ref C) (dunderR op.info.2) with
  | none => rw [e] at h4; cases h4
  | some o =>
    rw [e] at h4
    refine ⟨o, rfl, ?_⟩
    cases o with
    | none => exact .inl rfl
    | some v =>
      cases v with
      | ref a => exact .inr ⟨a, rfl⟩
      | _ => cases h4
def binTB (K : Frag) (op : Operator) (C : Addr) (T : String) : Bool := (findIn K (.type T) (PySem.dunder op.info.2)).isSome && ((findIn K (.type T) (dunderR op.info.2)).isSome && decide (subIn K (.type T) (.ref C) = some false))
theorem binTB_ok (h : binTB K op C T = true) : Beside K op C (.type T) := by
  obtain ⟨h1, h⟩ := ba h
  obtain ⟨h2, h3⟩ := ba h
  exact .inr ⟨T, rfl, Option.isSome_iff_exists.mp h1, Option.isSome_iff_exists.mp h2, of_decide_eq_true h3⟩
def binRB (K : Frag) (op : Operator) (C f : Addr) : Bool := selfFirst K C && (fnS (findIn K (.ref C) (PySem.dunder op.info.2)) && (eqO (findIn K (.ref C) (dunderR op.info.2)) (some (some (.ref f))) && (isFn K (.ref f) && decide (subIn K (.ref C) (.type "int") = some false))))
theorem binRB_ok (h : binRB K op C f = true) : BinR K op C f := by
  obtain ⟨h1, h⟩ := ba h
  obtain ⟨h2, h⟩ := ba h
  obtain ⟨h3, h⟩ := ba h
  obtain ⟨h4, h5⟩ := ba h
  refine ⟨h1, ?_, eqO_ok h3, h4, of_decide_eq_true h5⟩
  unfold fnS at h2
  split at h2
  · rename_i a e
    exact ⟨a, e⟩
  · cases h2
def cmpB (K : Frag) (op : CmpOp) (C f : Addr) : Bool := eqO (findIn K (.ref C) (cmpInfo op).2.1) (some (some (.ref f))) && isFn K (.ref f)
theorem cmpB_ok {op : CmpOp} (h : cmpB K op C f = true) : Cmp K op C f := by
  obtain ⟨h1, h2⟩ := ba h
  exact ⟨eqO_ok h1, h2⟩
def neB (K : Frag) (C f : Addr) : Bool := eqO (findIn K (.ref C) "__ne__") (some (some (.builtin "object.__ne__"))) && (eqO (findIn K (.ref C) "__eq__") (some (some (.ref f))) && (isFn K (.ref f) && decide (mroIn K C (.type "object") = some true)))
theorem neB_ok (h : neB K C f = true) : NeC K C f := by
  obtain ⟨h1, h⟩ := ba h
  obtain ⟨h2, h⟩ := ba h
  obtain ⟨h3, h4⟩ := ba h
  exact ⟨eqO_ok h1, eqO_ok h2, h3, of_decide_eq_true h4⟩
def insB (K : Frag) (C : Addr) : Bool := eqO (findIn K (.ref C) "__class__") (some (some (.builtin "object.__class__"))) && (eqO (specialIn K (.builtin "object.__class__") "__get__") (some (some (.builtin "getset_descriptor.__get__"))) &&
  (decide (takesIn K (.builtin "object.__class__") = some true) && (decide (mroIn K C (.type "object") = some true) && decide (kitOne K (.ref C) (.ref C) = some true))))
theorem insB_ok (c : Cls K C) (h : insB K C = true) : C8.InsC K C := by
  obtain ⟨h1, h⟩ := ba h
  obtain ⟨h2, h⟩ := ba h
  obtain ⟨h3, h⟩ := ba h
  obtain ⟨h4, h5⟩ := ba h
  exact ⟨c, eqO_ok h1, eqO_ok h2, of_decide_eq_true h3, of_decide_eq_true h4, of_decide_eq_true h5⟩
/-- a property's getter -/
def getA (C : Str) (m : Str) (K : Frag) : Addr := He5.wf K (ga K C) "property" m
def propB (K : Frag) (C : Addr) (m : Str) (g : Addr) : Bool := eqO (findIn K (.ref C) m) (some (some (.ref (ma K C m)))) && (eqO (specialIn K (.ref (ma K C m)) "__get__") (some (some (.builtin "property.__get__"))) &&
  (decide (takesIn K (.ref (ma K C m)) = some true) && (match recIn K (ma K C m) "property" with
    | some (.ref a :: _) => decide (a = g)
    | _ => false)))
theorem propB_ok {m : Str} {g : Addr} (h : propB K C m g = true) : PropOf K C m (ma K C m) g := by
  obtain ⟨h1, h⟩ := ba h
  obtain ⟨h2, h⟩ := ba h
  obtain ⟨h3, h4⟩ := ba h
  refine ⟨eqO_ok h1, eqO_ok h2, of_decide_eq_true h3, ?_⟩
  split at h4
  · rename_i a r e
    rw [of_decide_eq_true h4] at e
    exact ⟨r, e⟩
  · cases h4
end
end AF
/-! comprehensions over a short range, truths compared, counted -/
namespace AF
open PySem PySem.Spec PyProof.Rows L2
section
variable {H0 : Hp} {M : Addr → Prop} {H : Hp} {l l' : List Ent}
theorem Sh.perm (S : Sh H0 M H l) (p : l.Perm l') : Sh H0 M H l' :=
  ⟨S.fr, fun e he => S.has e (p.mem_iff.mpr he), (p.map tag).pairwise S.ap (fun {a b} h k => (h (k.symm)).symm), fun e he => S.mu e (p.mem_iff.mpr he)⟩
end
section
variable {σ σ' : L2.St} {H : Hp} {Q : VK} {K : PySem.W.Frag} {a b k : Bool} {nx : L2.St → Hp → Prop} {rt : VK} {bk ct : L2.St → Hp → Prop}
theorem g_eqB (q : Q (.bl (decide (a = b))) H) : rEq (.bl a) (.bl b) H Q := ⟨rfl, by
  have e : decide (V.bl a = V.bl b) = decide (a = b) := by rw [dec_bl]; cases a <;> cases b <;> rfl
  rw [e]; exact q⟩
theorem g_neB (q : Q (.bl (!decide (a = b))) H) : rNe (.bl a) (.bl b) H Q := ⟨rfl, by
  have e : decide (V.bl a = V.bl b) = decide (a = b) := by rw [dec_bl]; cases a <;> cases b <;> rfl
  rw [e]; exact q⟩
instance : Step (rEq (.bl a) (.bl b) H Q) (Q (.bl (decide (a = b))) H) := ⟨g_eqB⟩
instance : Step (rNe (.bl a) (.bl b) H Q) (Q (.bl (!decide (a = b))) H) := ⟨g_neB⟩
end
/-- a comprehension over a range of n turns, its variable in slot k -/
def LcR (n k : Nat) (te : TE) (σ : L2.St) (Q : VK) (H : Hp) : Prop := ∀ D, H D = none → ∃ W : Nat → Nat → Hp → Prop, (∃ m, W 0 m (upd H D (.lst []))) ∧ ∀ i m H, W i m H →
  ((Itr 0 n).stop i H ∧ Q (.ref D) H) ∨ ((Itr 0 n).go i H ∧ ∃ Nx : Hp → Prop, (∀ H', Nx H' → ∃ m', m' < m ∧ W (i + 1) m' H') ∧ ∀ x H', (Itr 0 n).yld i H x H' → gName k x (wipe σ [k]) H' fun σ2 H2 => wipe σ2 [k] = wipe σ [k] ∧ tYes σ2 H2 fun b H3 =>
    if b = true then te σ2 H3 fun y H4 => ∃ acc, H4 D = some (.lst acc) ∧ acc.length < sizeLine ∧ Nx (upd H4 D (.lst (acc ++ [y]))) else Nx H3)
/-- behind an element -/
def kEl (D : Addr) (P : Hp → Prop) (y : V) (H : Hp) : Prop := ∃ acc, H D = some (.lst acc) ∧ acc.length < sizeLine ∧ P (upd H D (.lst (acc ++ [y])))
section
variable {σ σ' : L2.St} {H : Hp} {Q : VK} {ta : TA} {te : TE} {k n : Nat}
theorem g_lcR (h : ta σ H (kR1 fun j H1 => LcR j.toNat k te σ Q H1)) : tLc (iRng1 ta) (gName k) tYes te [k] σ H Q := h
instance {x : Str} : Step (tLc (iRng1 ta) (gName k) tYes te (List.map (fun x => x.snd) [(x, k)]) σ H Q) (ta σ H (kR1 fun j H1 => LcR j.toNat k te σ Q H1)) := ⟨g_lcR⟩
theorem g_lcloop (hk : ∀ x : V, wipe ((wipe σ [k]).set k (some x)) [k] = wipe σ [k]) (Pv : Addr → Nat → Hp → Prop) (h0 : ∀ D, H D = none → Pv D 0 (upd H D (.lst [])))
    (hs : ∀ D (i : Nat) H', i < n → Pv D i H' → te ((wipe σ [k]).set k (some (.int (i : Int)))) H' (kEl D (Pv D (i + 1)))) (hd : ∀ D H', Pv D n H' → Q (.ref D) H') : LcR n k te σ Q H := fun D hD =>
  lc_range (lo := 0) (n := n) (Pv D) (h0 D hD) (fun i H' hi p => by
    have e : (0 : Int) + (i : Int) = (i : Int) := Int.zero_add _
    have q := hs D i H' hi p
    rw [← e] at q
    exact ⟨hk _, iteT (B := Pv D (i + 1) H') q⟩) (hd D)
theorem g_kel {H0 : Hp} {M : Addr → Prop} {l l' : List Ent} {D : Addr} {P : Hp → Prop} {acc : List V} {y : V} (S : Sh H0 M H l) (r : Rep l D (.lst acc) (.lst (acc ++ [y])) l') (hl : acc.length ≤ 1000) (q : ∀ H', Sh H0 M H' l' → P H') : kEl D P y H :=
  ⟨acc, S.has _ r.mem, small1000 hl, q _ (S.put r)⟩
end
theorem g_unl3 {σ σ1 σ2 σ3 : L2.St} {H : Hp} {K : PySem.W.Frag} {p : Addr} {x y z : V} {i j k : Nat} {P : L2.St → Hp → Prop} [h1 : SetI σ i x σ1] [h2 : SetI σ1 j y σ2] [h3 : SetI σ2 k z σ3] (h : H p = some (.lst [x, y, z])) (q : P σ3 H) :
    gUnl K 3 (gCons (gName i) (gCons (gName j) (gCons (gName k) gNil))) (.ref p) σ H P := by
  refine ⟨p, _, rfl, SqL.of h, rfl, x, _, rfl, y, _, rfl, z, _, rfl, rfl, ?_⟩
  rw [h1.eq, h2.eq, h3.eq]
  exact q
instance {te : TE} {K : PySem.W.Frag} {n : Nat} {t : TGs} {nx : L2.St → Hp → Prop} {rt : VK} {bk ct : L2.St → Hp → Prop} {σ : L2.St} {H : Hp} : Step (tAsg te (gUnl K n t) ⟨nx, rt, bk, ct⟩ σ H) (te σ H fun x H1 => gUnl K n t x σ H1 nx) := ⟨fun h => h⟩
/-- list.count of a truth in a list of truths -/
def eqb (k : Bool) (v : Value) : Bool := match v with
  | .bool b => b == k
  | _ => false
def rCntB (K : PySem.W.Frag) : V → List V → Hp → VK → Prop := fun x xs H Q => ∃ (p : Addr) (bs : List Bool) (k : Bool), x = .ref p ∧ xs = [.bl k] ∧ SqL K H p (bs.map V.bl) ∧ Q (.int (bs.count k : Nat)) H
theorem bools_of : ∀ {bs : List Bool} {us : List Value}, Vals (bs.map V.bl) us → us = bs.map Value.bool
  | [], _, .nil => rfl
  | b :: bs, _, .cons r t => by
    cases r
    rw [bools_of t]
    rfl
theorem countP_eqb {k : Bool} : ∀ bs : List Bool, (bs.map Value.bool).countP (eqb k) = bs.count k
  | [] => rfl
  | b :: bs => by
    rw [List.map_cons, List.countP_cons, List.count_cons, countP_eqb bs]
    rfl
theorem mt_bcount {X : Cx} : MtR X "list.count" (rCntB X.K) := by
  intro pins s σ H x xs v us Q I rx rxs h
  obtain ⟨p, bs, k, rfl, rfl, hs, q⟩ := h
  cases rx
  obtain ⟨u, rfl, ru⟩ := rxs.one
  cases ru
  obtain ⟨its, rv, ⟨⟨cls, dd, data, sl⟩, n, ho, hc, hdn, hd⟩, hlen⟩ := I.list hs
  simp only at hc hd
  subst hc hd
  have hi := bools_of rv
  subst hi
  refine call_meets PySem.F.slot_list_count ⟨_, ho, rfl⟩ PySem.F.entry_list_count (PySem.F.args_list_count_2 _ _)
    (SeqAt.list_countAt p (bs.map Value.bool).toArray n dd sl (.bool k) (eqb k)) ⟨ho, fun y hy => ?_, ?_⟩
  · have hy' : y ∈ bs.map Value.bool := List.mem_toArray.mp hy
    obtain ⟨b, _, rfl⟩ := List.mem_map.mp hy'
    exact SeqAt.EqAt.bool_bool b k
  · refine ⟨.int (bs.count k : Nat), H, I.tok _, ⟨s.toks, ?_⟩, q⟩
    show Value.int (((bs.map Value.bool).toArray.toList.countP (eqb k) : Nat) : Int) s.toks = Value.int ((bs.count k : Nat) : Int) s.toks
    rw [show ((bs.map Value.bool).toArray.toList) = bs.map Value.bool from rfl, countP_eqb]
def kBM (K : PySem.W.Frag) (T : String) (r : V → List V → Hp → VK → Prop) (t : TA) (σ : L2.St) (Q : VK) (x : V) (H : Hp) : Prop := tyV K T x H ∧ t σ H fun xs H2 => r x xs H2 Q
instance {K : PySem.W.Frag} {T : String} {r : V → List V → Hp → VK → Prop} {to : TE} {t : TA} {σ : L2.St} {H : Hp} {Q : VK} : Step (tBM K T r to t σ H Q) (to σ H (kBM K T r t σ Q)) := ⟨fun h => h⟩
/-- xs.count(k), xs just made -/
theorem g_cnt3 {H0 : Hp} {M : Addr → Prop} {l : List Ent} {σ : L2.St} {H : Hp} {Q : VK} {K : PySem.W.Frag} {p : Addr} {x y z : Bool} (S : Sh H0 M H l) (o : On l p (.lst [.bl x, .bl y, .bl z]))
    (q : Q (.int (([x, y, z] : List Bool).count true : Nat)) H) : kBM K "list" (rCntB K) (tCons (tC (.bl true)) tNil) σ Q (.ref p) H :=
  ⟨.inl ⟨rfl, _, SqL.of (S.has_ o)⟩, p, [x, y, z], true, rfl, rfl, SqL.of (S.has_ o), q⟩
end AF
/-! dicts: written ones with texts for keys, and new ones -/
namespace AF
open PySem PySem.Spec PyProof.Rows L2
/-- what stands at a key of a written dict, or the other value -/
def Here (r : Option Value) (v z : V) : Prop := match r with
  | some u => RelV v u
  | none => v = z
def tKGet (K : PySem.W.Frag) (d : Addr) (td ty tx : TE) : TE := fun σ H Q => td σ H fun x H1 => x = .ref d ∧ ty σ H1 fun y H2 => tx σ H2 fun z H3 => ∃ (k : Str) (r : Option Value) (v : V), y = .str k ∧ PySem.W.nsIn K d k = some r ∧ Here r v z ∧ Q v H3
theorem pe_kget {X : Cx} {d : Addr} {o e f : Expr} {apos cpos : Pos} {td ty tx : TE} (D : ∃ es n, KDict X.K X.w d es n) (ho : PE X o td) (he : PE X e ty) (hf : PE X f tx) (m : M2 X o "get" apos e f cpos) :
    PE X (.Call (.Attribute o "get" apos) [e, f] [] cpos) (tKGet X.K d td ty tx) := by
  obtain ⟨es, n, D⟩ := D
  refine ⟨fun pins s σ H Q I h => ?_⟩
  refine wpAny_Call_method m.base m.few m.line PySem.F.plainAttrs_dict PySem.F.slot_dict_get PySem.F.type_dict_get (thn (ho.run pins s σ H _ I h) fun u s1 ⟨x, H1, I1, rx, ex, q1⟩ => ?_)
  subst ex
  obtain rfl : u = Value.ref d := rx
  refine ⟨kd_type D I1, fun b q => ?_, ?_⟩
  · cases q
    exact ⟨_, I1.kIn _ _ D.at_, rfl⟩
  rw [m.trees]
  refine Calls.callWith_builtin rfl (Calls.evalArgs_plain (Calls.spliced_cons (thn (he.run pins s1 σ H1 _ I1 q1) fun iv s2 ⟨y, H2, I2, ry, q2⟩ =>
    Calls.spliced_cons (thn (hf.run pins s2 σ H2 _ I2 q2) fun fv s3 ⟨z, H3, I3, rz, k, r, v, ey, hk, hv, q3⟩ => Calls.spliced_nil ?_))))
  subst ey
  obtain ⟨t, rfl⟩ := ry
  refine call_meetsIn PySem.F.slot_dict_get (kd_type D I3) PySem.F.entry_dict_get (PySem.F.args_dict_get_3 _ _ _) (meets_dict_get_default (strKind X.prog X.w) d (PySem.strKind_is X.prog X.w k t) D.low fv) ⟨_, PySem.W.mapOf_K (prog := X.prog) I3.kIn D.at_ D.lit, ?_⟩
  rw [PySem.W.find_K D.at_ hk]
  cases r with
  | none =>
    have e : v = z := hv
    subst e
    exact ⟨v, H3, I3.tok _, rz, q3⟩
  | some u => exact ⟨v, H3, I3.tok _, hv, q3⟩
/-- a written tuple -/
def KT (K : PySem.W.Frag) (a : Addr) (xs : List V) : Prop := ∃ (o : Obj) (its : Array Value) (n : Nat), K.lookup a = some o ∧ o.cls = .type "tuple" ∧ o.data = .seq its n ∧ its.size ≤ sizeLine ∧ Vals xs its.toList
theorem KT.sq {K : PySem.W.Frag} {a : Addr} {xs : List V} {H : Hp} (h : KT K a xs) : SqT K H a xs := .inr h
/-- turn by turn -/
def Each (g : TG) (tb : TS) (D : Ends) : List V → L2.St → Hp → Prop
  | [] => D.nx
  | x :: r => fun σ H => g x σ H fun σ2 H2 => tb { D with nx := Each g tb D r, ct := Each g tb D r, bk := D.nx } σ2 H2
def kTurn (K : PySem.W.Frag) (g : TG) (tb : TS) (D : Ends) (σ : L2.St) : V → Hp → Prop := fun x H => ∃ a, x = .ref a ∧ (∃ xs, SqT K H a xs) ∧ ∃ W : Nat → Nat → L2.St → Hp → Prop, (∃ m, W 0 m σ H) ∧ ∀ i m σ H, W i m σ H →
  ((Itt K a).stop i H ∧ D.nx σ H) ∨ ((Itt K a).go i H ∧ ∃ N : L2.St → Hp → Prop, (∀ σ' H', N σ' H' → ∃ m', m' < m ∧ W (i + 1) m' σ' H') ∧ ∀ x H', (Itt K a).yld i H x H' → g x σ H' fun σ2 H2 => tb { D with nx := N, ct := N, bk := D.nx } σ2 H2)
instance {K : PySem.W.Frag} {ta : TE} {g : TG} {tb : TS} {D : Ends} {σ : L2.St} {H : Hp} : Step (tFor (iTup K ta) g tb D σ H) (ta σ H (kTurn K g tb D σ)) := ⟨fun h => h⟩
theorem g_turn {K : PySem.W.Frag} {a : Addr} {xs : List V} {g : TG} {tb : TS} {D : Ends} {σ : L2.St} {H : Hp} (h : KT K a xs) (q : Each g tb D xs σ H) : kTurn K g tb D σ (.ref a) H := by
  refine ⟨a, rfl, ⟨xs, h.sq⟩, for_tup (fun i σ H => Each g tb D (xs.drop i) σ H) q (fun _ _ _ _ _ => h.sq) (fun i x σ H hx p => ?_) fun σ H p => ?_⟩
  · obtain ⟨hi, e⟩ := List.getElem?_eq_some_iff.mp hx
    rw [List.drop_eq_getElem_cons hi, e] at p
    exact p
  · rw [List.drop_length] at p
    exact p
instance {i : Nat} {tb : TS} {nx bk ct : L2.St → Hp → Prop} {rt : VK} {x : V} {r : List V} {σ : L2.St} {H : Hp} : Step (Each (gName i) tb ⟨nx, rt, bk, ct⟩ (x :: r) σ H) (tb ⟨Each (gName i) tb ⟨nx, rt, bk, ct⟩ r, rt, nx, Each (gName i) tb ⟨nx, rt, bk, ct⟩ r⟩ (σ.set i (some x)) H) := ⟨fun h => h⟩
instance {g : TG} {tb : TS} {nx bk ct : L2.St → Hp → Prop} {rt : VK} {σ : L2.St} {H : Hp} : Step (Each g tb ⟨nx, rt, bk, ct⟩ [] σ H) (nx σ H) := ⟨fun h => h⟩
section
variable {K : PySem.W.Frag} {d a p : Addr} {H H0 : Hp} {M : Addr → Prop} {l l' : List Ent} {Q : VK} {z : Str} {xs : List V} {i : Int} {v : V} {σ : L2.St} {td ty tx : TE}
theorem g_ixT (h : H p = some (.tup xs)) (ha : atI xs i = some v) (q : Q v H) : rIxT K (.ref p) (.int i) H Q := ⟨p, xs, i, v, rfl, rfl, SqT.of h, ha, q⟩
theorem g_inT {x : V} {r : Bool} (h : H p = some (.tup xs)) (fx : flatV x = true) (fs : xs.all flatV = true) (e : inV x xs = r) (q : Q (.bl r) H) : rIn K false x (.ref p) H Q := ⟨p, xs, rfl, .inr (SqT.of h), fx, fs, by rw [e]; exact q⟩
theorem g_ninT {x : V} {r : Bool} (h : H p = some (.tup xs)) (fx : flatV x = true) (fs : xs.all flatV = true) (e : inV x xs = r) (q : Q (.bl (!r)) H) : rIn K true x (.ref p) H Q := ⟨p, xs, rfl, .inr (SqT.of h), fx, fs, by rw [e]; exact q⟩
theorem g_inKT {x : V} {r : Bool} (h : KT K p xs) (fx : flatV x = true) (fs : xs.all flatV = true) (e : inV x xs = r) (q : Q (.bl r) H) : rIn K false x (.ref p) H Q := ⟨p, xs, rfl, .inr h.sq, fx, fs, by rw [e]; exact q⟩
/-- x in d, d a written dict -/
def rInK (K : PySem.W.Frag) (d : Addr) (neg : Bool) : R2 := fun x y H Q => ∃ (z : Str) (r : Option Value), x = .str z ∧ y = .ref d ∧ PySem.W.nsIn K d z = some r ∧ Q (.bl (if neg then !r.isSome else r.isSome)) H
theorem op_inK {X : Cx} {d : Addr} (D : ∃ es n, KDict X.K X.w d es n) : OpR X (compareOp .In) (rInK X.K d false) := by
  obtain ⟨es, n, D⟩ := D
  exact op_in_kd D
theorem op_notInK {X : Cx} {d : Addr} (D : ∃ es n, KDict X.K X.w d es n) : OpR X (compareOp .NotIn) (rInK X.K d true) := by
  obtain ⟨es, n, D⟩ := D
  exact op_notIn_kd D
theorem g_inK {r : Option Value} (e : PySem.W.nsIn K d z = some r) (q : Q (.bl r.isSome) H) : rInK K d false (.str z) (.ref d) H Q := ⟨z, r, rfl, rfl, e, q⟩
theorem g_ninK {r : Option Value} (e : PySem.W.nsIn K d z = some r) (q : Q (.bl (!r.isSome)) H) : rInK K d true (.str z) (.ref d) H Q := ⟨z, r, rfl, rfl, e, q⟩
theorem g_ixK {w : World} {u : Value} (D : ∃ es n, KDict K w d es n) (e : PySem.W.nsIn K d z = some (some u)) (hv : RelV v u) (q : Q v H) : rIxD K w (.ref d) (.str z) H Q := by
  obtain ⟨es, n, D⟩ := D
  exact ⟨d, z, v, rfl, rfl, ⟨es, n, u, D.at_, D.lit, e, hv⟩, q⟩
theorem g_ixKr {w : World} {t : Addr} (D : ∃ es n, KDict K w d es n) (e : PySem.W.nsIn K d z = some (some (.ref t))) (q : Q (.ref t) H) : rIxD K w (.ref d) (.str z) H Q := g_ixK (v := .ref t) D e rfl q
/-- what .get asks behind its parts -/
def kKG3 (K : PySem.W.Frag) (d : Addr) (Q : VK) (y : V) : VK := fun z H3 => ∃ (k : Str) (r : Option Value) (v : V), y = .str k ∧ PySem.W.nsIn K d k = some r ∧ Here r v z ∧ Q v H3
def kKG1 (K : PySem.W.Frag) (d : Addr) (ty tx : TE) (σ : L2.St) (Q : VK) : VK := fun x H1 => x = .ref d ∧ ty σ H1 fun y H2 => tx σ H2 (kKG3 K d Q y)
instance : Step (tKGet K d td ty tx σ H Q) (td σ H (kKG1 K d ty tx σ Q)) := ⟨fun h => h⟩
instance : Step (kKG1 K d ty tx σ Q (.ref d) H) (ty σ H fun y H2 => tx σ H2 (kKG3 K d Q y)) := ⟨fun h => ⟨rfl, h⟩⟩
theorem g_kg {r : Option Value} {y : V} (e : PySem.W.nsIn K d z = some r) (hv : Here r v y) (q : Q v H) : kKG3 K d Q (.str z) y H := ⟨z, r, v, rfl, e, hv, q⟩
theorem g_kgR {t : Addr} {y : V} (e : PySem.W.nsIn K d z = some (some (.ref t))) (q : Q (.ref t) H) : kKG3 K d Q (.str z) y H := g_kg (v := .ref t) e (show L2.RelV (.ref t) (.ref t) from rfl) q
theorem g_kg0 {y : V} (e : PySem.W.nsIn K d z = some none) (q : Q y H) : kKG3 K d Q (.str z) y H := g_kg (v := y) e rfl q
theorem g_dnew (S : Sh H0 M H l) (q : ∀ p H', H p = none → Sh H0 M H' ((p, .dK [], true) :: l) → Q (.ref p) H') : tDNewK σ H Q := fun p hp => q p _ hp (S.new hp)
theorem g_setD {kvs kvs' : List (Key × V)} {P : Hp → Prop} (S : Sh H0 M H l) (r : Rep l p (.dK kvs) (.dK kvs') l') (hn : Nat.blt kvs.length 1000 = true) (e : putK kvs (.inr z) v = kvs') (q : ∀ H', Sh H0 M H' l' → P H') : rSetD (.ref p) (.str z) v H P := by
  subst e
  exact ⟨p, _, rfl, .inl ⟨kvs, .inr z, S.has _ r.mem, rfl, Nat.lt_trans (Nat.le_of_ble_eq_true hn) (small1000 (Nat.le_refl _)), rfl⟩, q _ (S.put r)⟩
end
/-- d[k] of a dict that stands in the heap -/
def kDG (Q : VK) (x : V) : VK := fun y H2 => ∃ a v, x = .ref a ∧ DGet H2 a y (some v) ∧ Q v H2
section
variable {K : PySem.W.Frag} {d a p : Addr} {H H0 : Hp} {M : Addr → Prop} {l l' : List Ent} {Q : VK} {z : Str} {xs : List V} {v : V} {σ : L2.St} {td ty tx : TE} {kvs : List (Key × V)}
instance : Step (tDGet td ty σ H Q) (td σ H fun x H1 => ty σ H1 (kDG Q x)) := ⟨fun h => h⟩
theorem g_dg (h : H a = some (.dK kvs)) (e : valV kvs (.inr z) = some v) (q : Q v H) : kDG Q (.ref a) (.str z) H := by
  refine ⟨a, v, rfl, ?_, q⟩
  rw [← e]
  exact DGet.k (k := .inr z) h
/-- dict(d) -/
def rDictD : List V → Hp → VK → Prop := fun xs H Q => ∃ (a : Addr) (kvs : List (Key × V)), xs = [.ref a] ∧ Rd H a (.dK kvs) ∧ ∀ p, H p = none → Q (.ref p) (upd H p (.dK kvs))
theorem cl_dictD {X : Cx} : CallR X (.type "dict") rDictD := call_dictD
theorem g_dictD (S : Sh H0 M H l) (h : H a = some (.dK kvs)) (q : ∀ p H', H p = none → Sh H0 M H' ((p, .dK kvs, true) :: l) → Q (.ref p) H') : rDictD [.ref a] H Q := ⟨a, kvs, rfl, .inl h, fun p hp => q p _ hp (S.new hp)⟩
end
end AF
/-! static methods called by their class -/
namespace AF
open PySem PySem.Spec PyProof.Rows L2
/-- C.m is a static method: its record at p, its def at g -/
structure SMet (K : PySem.W.Frag) (C : Addr) (m : Str) (p g : Addr) : Prop where
  rd : ClX.CRead K C (.type "type")
  at_ : PySem.W.findCls K (.ref C) (.type "type") m = some (.get (.builtin "staticmethod.__get__") (.ref p) .none (.ref C))
  rc : ∃ rest, PySem.W.recIn K p "staticmethod" = some (.ref g :: rest)
section
variable {X : Cx} {k : Nat} {C p g : Addr} {ps : List Str} {sp : Sp} {E : XK} {o e : Expr} {es : List Expr} {m x : Str} {pos apos p1 : Pos} {t : TA} {pl : Sem Bool}
theorem getsm_ok {A : Around} {E : Value → Shared → Prop} {pins : List (Addr × Obj)} {σ : L2.St} {H : Hp} {s : Shared} {Q : Value × List Value → Shared → Prop} (I : Inv X pins σ H s) (c : SMet X.K C m p g)
    (h : ∀ s', Inv X pins σ H s' → Q (.ref g, []) s') : wpAny (model X.prog X.w) A (getMethod (.ref C) m pl) Q E s := by
  obtain ⟨rest, hp⟩ := c.rc
  refine PySem.W.method_cls I.kIn c.rd.ga (PySem.W.cls_bind I.kIn c.rd.rd c.at_ ?_)
  exact wpAny_call (PySem.W.sm_get (s := { s with toks := s.toks + 1 }) I.kIn hp (PySem.W.handed_on rfl (h _ (I.tok _))))
theorem pe_sm (c : SMet X.K C m p g) (D : Dn X.prog X.w X.K X.mg X.base k g ps sp) (hr : Room k X.A) (hg : Gl X x) (hm : X.mg x = some (.ref C)) (hx : Passes (L2.CX X.prog X.w) X E) (ha : PA X (e :: es) t) (hdb : (x == ("__debug__" : Str)) = false := by decide)
    (hst : starEach (e :: es) X.env = (false, eval e X.env) :: starEach es X.env := by rfl) (hpl : (backTo pos (starEach es X.env)).any (·.1) = false := by rfl)
    (ht : eval (.Call (.Attribute (.Name x p1) m apos) (e :: es) [] pos) X.env = (do
      let ov ← eval (.Name x p1) X.env
      standAt apos.atName
      let (f, first) ← holding [ov] (getMethod ov m pl)
      callWith pos f first (backTo pos (starEach (e :: es) X.env)) (backToKw pos (keywordEach [] X.env))) := by rfl) :
    PE X (.Call (.Attribute (.Name x p1) m apos) (e :: es) [] pos) (tCall sp [] E t) := by
  obtain ⟨fd, F, b⟩ := D.ex
  refine ⟨fun pins s σ H Q I h => ?_⟩
  have hn : PE X (.Name x p1) (tC (.ref C)) := pe_glob (v := .ref C) hg hm rfl hdb
  refine PySem.W.methodCall_KW (pl := pl) (thn (hn.run pins s σ H (fun v H1 => v = .ref C ∧ tCall sp [] E t σ H1 Q) I ⟨rfl, h⟩) fun u s1 ⟨y, H1, I1, rx, ex, q⟩ => ?_) ht
  subst ex
  obtain rfl : u = Value.ref C := rx
  refine getsm_ok I1 c fun s2 I2 => ?_
  refine PySem.W.callWith_K (first := []) (h₀ := X.base) I.ok.mod.kin D.kp (thn (ha.run pos pins s2 σ H1 _ I2 q) fun us s3 ⟨vs, H2, I3, r, q2⟩ => ⟨I3.kIn, ?_⟩) hst hpl
  exact run_fn (us := us) (vs := vs) F hr b .nil hx I3 r q2
theorem pe_sm0 (c : SMet X.K C m p g) (D : Dn X.prog X.w X.K X.mg X.base k g [] sp) (hr : Room k X.A) (hg : Gl X x) (hm : X.mg x = some (.ref C)) (hx : Passes (L2.CX X.prog X.w) X E) (hdb : (x == ("__debug__" : Str)) = false := by decide)
    (ht : eval (.Call (.Attribute (.Name x p1) m apos) [] [] pos) X.env = (do
      let ov ← eval (.Name x p1) X.env
      standAt apos.atName
      let (f, first) ← holding [ov] (getMethod ov m pl)
      callWith pos f first (backTo pos (starEach [] X.env)) (backToKw pos (keywordEach [] X.env))) := by rfl) :
    PE X (.Call (.Attribute (.Name x p1) m apos) [] [] pos) (tCall sp [] E tNil) := by
  obtain ⟨fd, F, b⟩ := D.ex
  refine ⟨fun pins s σ H Q I h => ?_⟩
  have hn : PE X (.Name x p1) (tC (.ref C)) := pe_glob (v := .ref C) hg hm rfl hdb
  refine PySem.W.methodCall_KW (pl := pl) (thn (hn.run pins s σ H (fun v H1 => v = .ref C ∧ tCall sp [] E tNil σ H1 Q) I ⟨rfl, h⟩) fun u s1 ⟨y, H1, I1, rx, ex, q⟩ => ?_) ht
  subst ex
  obtain rfl : u = Value.ref C := rx
  refine getsm_ok I1 c fun s2 I2 => ?_
  exact PySem.W.callWith_K0 I2.kIn D.kp (run_fn (us := []) (vs := []) F hr b .nil hx I2 .nil q)
end
/-! the facts as truths -/
def smB (K : PySem.W.Frag) (C : Addr) (m : Str) (p g : Addr) : Bool := PySem.W.readsIn K C (.type "type") && (He.eqO (PySem.W.specialIn K (.ref C) "__getattribute__") (some (some (.builtin "type.__getattribute__"))) &&
  ((match PySem.W.findCls K (.ref C) (.type "type") m with
    | some (.get (.builtin b) (.ref q) .none (.ref D)) => decide (b = "staticmethod.__get__") && (decide (q = p) && decide (D = C))
    | _ => false) &&
  (match PySem.W.recIn K p "staticmethod" with
    | some (.ref a :: _) => decide (a = g)
    | _ => false)))
theorem smB_ok {K : PySem.W.Frag} {C p g : Addr} {m : Str} (h : smB K C m p g = true) : SMet K C m p g := by
  obtain ⟨h1, h⟩ := He.ba h
  obtain ⟨h2, h⟩ := He.ba h
  obtain ⟨h3, h4⟩ := He.ba h
  refine ⟨⟨h1, He.eqO_ok h2⟩, ?_, ?_⟩
  · split at h3
    · rename_i b q D e
      obtain ⟨a1, a⟩ := He.ba h3
      obtain ⟨a2, a3⟩ := He.ba a
      rw [e, of_decide_eq_true a1, of_decide_eq_true a2, of_decide_eq_true a3]
    · cases h3
  · split at h4
    · rename_i a r e
      rw [of_decide_eq_true h4] at e
      exact ⟨r, e⟩
    · cases h4
end AF
/-! own errors that keep one value -/
namespace AF
open PySem PySem.Spec PyProof.Rows L2
/-- __init__(self, f): self.f = f -/
def spErr (C : Addr) (f : Str) : Sp := fun vs H Q _ => ∃ (a : Addr) (v : V), vs = [.ref a, v] ∧ H a = some (exo a C none) ∧ ∀ d, H d = none → d ≠ a → Q .non (upd (upd H d (exd d [(f, v)])) a (exo a C (some d)))
theorem read_err {C : Addr} {K : PySem.W.Frag} {f : Str} {N : List Str} {vs : List V} {H : Hp} {Q : VK} {E : XK} {σ : L2.St} (T : OexC K C) (hno : PySem.W.findIn K (.ref C) f = some none) (h : spErr C f vs H Q E) (hσ : Ent0 N vs σ) (h0 : ∀ a v, vs = [V.ref a, v] → σ[0]? = some (some (.ref a)) ∧ σ[1]? = some (some v)) :
    tOst K f (tVar 0) (tVar 1) { nx := fun _ H' => Q .non H', rt := Q } (L2.start N vs) H := by
  obtain ⟨a, v, e, ha, k⟩ := h
  rw [hσ.eq]
  obtain ⟨h1, h2⟩ := h0 a v e
  exact ⟨v, h2, .ref a, h1, a, C, rfl, T, hno, .inl ⟨ha, fun d n1 n2 => k d n1 n2⟩⟩
structure Xn (P : Program) (w : World) (K : PySem.W.Frag) (mg : Str → Option Value) (base : Heap) (k : Nat) (C : Addr) (f : Str) : Prop where
  ex : ∃ fI fd ps, PySem.W.findIn K (.ref C) "__init__" = some (some (.ref fI)) ∧ PySem.W.typeIn K (.ref fI) = some (.type "function") ∧ FnOk P w K mg base (L2.CX P w) k fI fd ps (spErr C f) ∧ Binds K fd ps []
  ox : OexC K C
/-- raise X(e): what is asked behind e -/
def kErr (C : Addr) (f : Str) (W : WX) (σ : L2.St) (v : V) (H1 : Hp) : Prop := ([v] : List V).length ≤ 1000 ∧ ∀ a, H1 a = none → spErr C f (.ref a :: ([v] ++ [])) (upd H1 a (exo a C none))
  (fun u H2 => u = .non ∧ ∃ (d : Addr) (fs : List (Str × V)), H2 a = some (exo a C (some d)) ∧ H2 d = some (exd d fs) ∧ H1 d = none ∧ W (.ref C) (some d) σ (upd (del H2 a) d (.xd fs))) (fun _ _ _ => False)
def tErr (C : Addr) (f : Str) (te : TE) (W : WX) : TS := fun _ σ H => te σ H (kErr C f W σ)
theorem heap_back {H : Hp} {a d : Addr} {o1 o2 o3 o4 : HO} (ha : H a = none) : upd (del (upd (upd (upd H a o1) d o2) a o3) a) d o4 = upd H d o4 := by
  funext b
  by_cases hd : b = d
  · rw [hd, upd_same, upd_same]
  · rw [upd_ne hd, upd_ne hd]
    by_cases hb : b = a
    · rw [hb, del_same, ha]
    · rw [del_ne hb, upd_ne hb, upd_ne hd, upd_ne hb]
theorem g_kerr {C : Addr} {f : Str} {W : WX} {σ : L2.St} {v : V} {H1 : Hp} (q : ∀ d, H1 d = none → W (.ref C) (some d) σ (upd H1 d (.xd [(f, v)]))) : kErr C f W σ v H1 := by
  refine ⟨by simp, fun a ha => ⟨a, v, rfl, upd_same, fun d hd hda => ⟨rfl, d, [(f, v)], upd_same, ?_, ?_, ?_⟩⟩⟩
  · rw [upd_ne hda, upd_same]
  · rw [upd_ne hda] at hd; exact hd
  · rw [heap_back ha]
    rw [upd_ne hda] at hd
    exact q d hd
theorem ps_err {X : Cx} {k : Nat} {C : Addr} {f x : Str} {W : WX} {e : Expr} {te : TE} {p pos pos' : Pos} (D : Xn X.prog X.w X.K X.mg X.base k C f) (hr : Room (k + 1) X.A) (hc : X.calm = true) (tk : Takes X W) (hg : Gl X x) (hm : X.mg x = some (.ref C)) (hx : Passes (L2.CX X.prog X.w) X (fun _ _ _ => False))
    (he : PE X e te) (hst : starEach [e] X.env = (false, eval e X.env) :: starEach [] X.env := by rfl) (hpl : (backTo pos (starEach [] X.env)).any (·.1) = false := by rfl) (hdb : (x == ("__debug__" : Str)) = false := by decide) :
    PS X (.Raise (some (.Call (.Name x p) [e] [] pos)) none pos') (tErr C f te W) := by
  obtain ⟨fI, fd, ps, iC, tI, F, b⟩ := D.ex
  have mk := pmk_oex (pos := pos) (p := p) D.ox iC tI F hr b .nil hx hg hm (pa_cons he pa_nil hst) hdb hst hpl
  exact ps_raise (pos := pos') hc tk mk
/-- an error comes out: its dict is new, all else stays -/
def Err (C : Addr) (f : Str) (v : V) (H : Hp) (E : XK) : Prop := ∀ d H', H d = none → Ch [] H H' → H' d = some (.xd [(f, v)]) → E (.ref C) (some d) H'
theorem g_err {C : Addr} {f : Str} {W : WX} {σ : L2.St} {v : V} {H0 H : Hp} {l : List Ent} {M : Addr → Prop} (S : Sh H0 M H l) (q : ∀ d H', Sh H0 M H' ((d, .xd [(f, v)], true) :: l) → W (.ref C) (some d) σ H') : kErr C f W σ v H :=
  g_kerr fun d hd => q d _ (S.new hd)
instance {C : Addr} {f : Str} {te : TE} {W : WX} {D : Ends} {σ : L2.St} {H : Hp} : Step (tErr C f te W D σ H) (te σ H (kErr C f W σ)) := ⟨fun h => h⟩
theorem end_err {C d : Addr} {f : Str} {v : V} {H H' : Hp} {l : List Ent} {E : XK} (S : Sh H (fun _ => False) H' ((d, .xd [(f, v)], true) :: l)) (k : Err C f v H E) : E (.ref C) (some d) H' :=
  k d H' ((S.mu _ List.mem_cons_self rfl).elim False.elim id) (S.out fun _ h => h.elim) (S.has_ .here)
/-- facts of such a class -/
def tyB : Value → Bool
  | .type n => decide (n = "type")
  | _ => false
def veB : Option Value → Bool
  | some (.builtin n) => decide (n = "ValueError.__new__")
  | _ => false
def slB : List (Option Value) → Bool
  | [_, _, _, _, x, _] => veB x
  | _ => false
def mroB (C : Addr) : List Value → Bool
  | .ref a :: bm => decide (a = C) && PySem.HandSPX.refsVE bm
  | _ => false
def shapeB (C : Addr) : Option Obj → Bool
  | some ⟨cl, _, .cls cd, sl⟩ => tyB cl && (mroB C cd.mro && (cd.hasDict && (!cd.hasDel && slB sl.toList)))
  | _ => false
def oexB (K : PySem.W.Frag) (C : Addr) : Bool := shapeB C (K.lookup C) && (He.eqO (PySem.W.findIn K (.ref C) "__setattr__") (some (some (.builtin "object.__setattr__"))) && (decide (PySem.W.subIn K (.ref C) (.type "BaseException") = some true) &&
  (He.eqO (some (PySem.W.typeIn K (.ref C))) (some (some (.type "type"))) && PySem.W.keepIn K (.ref C))))
theorem shape_ok {C : Addr} {o : Option Obj} (h : shapeB C o = true) : ∃ nm q N bs bm sn sub ab col dd k0 k1 k2 k3 k5, o = some (excClassObj nm q C N bs bm true sn sub ab col dd k0 k1 k2 k3 k5 "ValueError.__new__") ∧ PySem.HandSPX.refsVE bm = true := by
  unfold shapeB at h
  split at h
  · rename_i cl dd cd sl
    obtain ⟨h1, h⟩ := He.ba h
    obtain ⟨h2, h⟩ := He.ba h
    obtain ⟨h3, h⟩ := He.ba h
    obtain ⟨h4, h5⟩ := He.ba h
    obtain ⟨nm, bs, mro, ns, qn, hd, sn, sb, ab, col, del⟩ := cd
    dsimp only at h2 h3 h4
    unfold tyB at h1
    split at h1
    · have e1 := of_decide_eq_true h1
      subst e1
      unfold mroB at h2
      split at h2
      · rename_i a bm
        obtain ⟨h6, h7⟩ := He.ba h2
        have e2 := of_decide_eq_true h6
        subst e2
        subst h3
        have e4 : del = false := by cases del <;> simp_all
        subst e4
        obtain ⟨sl⟩ := sl
        change slB sl = true at h5
        unfold slB at h5
        split at h5
        · rename_i k0 k1 k2 k3 x k5
          unfold veB at h5
          split at h5
          · have e5 := of_decide_eq_true h5
            subst e5
            exact ⟨_, _, _, _, _, _, _, _, _, _, _, _, _, _, _, rfl, h7⟩
          · cases h5
        · cases h5
      · cases h2
    · cases h1
  · cases h
theorem oexB_ok {K : PySem.W.Frag} {C : Addr} (h : oexB K C = true) : OexC K C := by
  obtain ⟨h1, h⟩ := He.ba h
  obtain ⟨h2, h⟩ := He.ba h
  obtain ⟨h3, h⟩ := He.ba h
  obtain ⟨h4, h5⟩ := He.ba h
  exact ⟨shape_ok h1, He.eqO_ok h2, of_decide_eq_true h3, Option.some.inj (He.eqO_ok h4), h5⟩
end AF
/-! o[k] by an own def, a call of an own instance, items of a new dict -/
namespace AF
open PySem PySem.Spec PyProof.Rows L2
open PySem.W (Looks InstAt)
/-- C's __getitem__ is the def at f -/
structure GI (K : PySem.W.Frag) (C f : Addr) : Prop where
  nq : PySem.W.noSeq K C = true
  hs : PySem.W.findIn K (.ref C) "__getitem__" = some (some (.ref f))
  hf : PySem.W.isFn K (.ref f) = true
  hn : PySem.W.fnIn K f = true
/-- C's __call__ is the def at f -/
structure CI (K : PySem.W.Frag) (C f : Addr) : Prop where
  hs : PySem.W.findIn K (.ref C) "__call__" = some (some (.ref f))
  hf : PySem.W.isFn K (.ref f) = true
  hn : PySem.W.fnIn K f = true
def rGI (C : Addr) (sp : Sp) (E : XK) : R2 := fun x y H Q => ∃ a dx fs, x = .ref a ∧ H a = some (.ins C dx fs) ∧ sp [x, y] H Q E
section
variable {X : Cx} {k : Nat} {f C : Addr} {ps : List Str} {sp : Sp} {E : XK} {pos : Pos} {ea eb : Expr} {ta tb : TE}
theorem pe_ixo (D : Dn X.prog X.w X.K X.mg X.base k f ps sp) (B : GI X.K C f) (hr : Room (k + 1) X.A) (hx : Passes (L2.CX X.prog X.w) X E) (ha : PE X ea ta) (hb : PE X eb tb)
    (hs : ∀ v u, subscripted eb true v u = runValue (.builtin "lifetime.subscript" ⟨[v, u], []⟩) := by intro _ _; with_unfolding_all rfl) : PE X (.Subscript ea eb pos) (tOp (rGI C sp E) ta tb) := by
  obtain ⟨fd, F, b⟩ := D.ex
  refine ⟨fun pins s σ H Q I h => ?_⟩
  refine Subscript_ (binT ha hb I h fun v u s2 x y H2 I2 rx ry q => ?_)
  obtain ⟨p, dx, fs, rfl, ho, q⟩ := q
  cases rx
  obtain ⟨mA, J, _⟩ := ins_get I2.hok ho
  obtain ⟨od, J, _⟩ := J.look
  obtain ⟨m, hF⟩ := I2.fr
  have hl := F.len _ _ _ _ q
  have rv : Vals [V.ref p, y] [Value.ref p, u] := .cons rfl (.cons ry .nil)
  refine PySem.W.sub_K hF I2.ok.mod.kin J B.hs B.hn B.hf ?_ (hs _ _)
  refine wpAny_call (codeAny_mono (F.run X.A.in1 X.stack s2 H2 ⟨[.ref p, u], []⟩ [.ref p, u] [.ref p, y] Q E hr.in1 I2.env0.in1 (by
      have := b s2 [.ref p, u] I2.kIn (by simpa using hl)
      simpa using this) rv q) fun r s' hq => ?_)
  cases r with
  | error e => exact hx pins σ H2 s2 e s' I2 hq
  | ok fl =>
    cases fl with
    | ret w => exact I2.after hq
    | next => exact False.elim hq
    | brk => exact False.elim hq
    | cont => exact False.elim hq
end
/-! calls of own instances -/
section
variable {M : Model} {A : Around} {E : Value → Shared → Prop} {s : Shared} {pos : Pos} {x : Addr} {Q : Value → Shared → Prop}
theorem inst_callWith {args : List (Bool × Sem Value)} (hplain : (args.any (·.1) || ([] : List (Option Str × Sem Value)).any (·.1.isNone)) = false)
    (h : wpAny M A (evalArgs (.ref x) true args []) (fun a s₁ => Looks M s₁.heap (keeperOf (.ref x)) .caller ∧ wpAny M A (call (.ref x) a.pos a.kw) Q E s₁) E s) : wpAny M A (callWith pos (.ref x) [] args []) Q E s := by
  unfold callWith
  refine wpAny_bind (wpAny_holding (wpAny_mono h (fun a s₁ h₁ => wpAny_bind (wpAny_standAt ?_)) fun _ _ y => y))
  have L := h₁.1
  simp only [hplain]
  refine wpAny_bind (L.here ?_)
  have tail : ∀ {t : Sem Value}, wpAny M A t Q E s₁ → wpAny M A (t >>= fun r => holding [r] point >>= fun _ => pure r) Q E s₁ :=
    fun ht => wpAny_bind (wpAny_mono ht (fun r s₂ hr => wpAny_bind (wpAny_holding (wpAny_point (wpAny_pure hr)))) fun _ _ y => y)
  exact tail (wpAny_operateT h₁.2)
end
section
variable {X : Cx} {k i : Nat} {f C : Addr} {ps : List Str} {sp : Sp} {E : XK} {pos apos p : Pos} {e o : Expr} {es : List Expr} {x m : Str} {ta : TE} {t : TA}
theorem run_inst {pins : List (Addr × Obj)} {σ : L2.St} {H : Hp} {s : Shared} {Q : VK} {us : List Value} {vs : List V} {a dx : Addr} {fs : List (Str × V)} (D : Dn X.prog X.w X.K X.mg X.base k f ps sp) (c : CI X.K C f) (hr : Room k X.A)
    (hx : Passes (L2.CX X.prog X.w) X E) (I : Inv X pins σ H s) (ho : H a = some (.ins C dx fs)) (r : Vals vs us) (h : sp (.ref a :: vs) H Q E) : wpAny (model X.prog X.w) X.A (call (.ref a) us []) (EP X pins σ Q) X.xe s := by
  obtain ⟨fd, F, b⟩ := D.ex
  obtain ⟨mA, J, _⟩ := ins_get I.hok ho
  obtain ⟨od, J, _⟩ := J.look
  have rr : Vals (V.ref a :: vs) (Value.ref a :: us) := .cons rfl r
  have hl : (Value.ref a :: us).length = ps.length := by rw [← rr.length]; exact F.len _ _ _ _ h
  refine wpAny_call (PySem.W.kco_code I.kIn J rfl c.hs c.hf c.hn (codeAny_mono (F.run X.A X.stack s H ⟨.ref a :: us, []⟩ (.ref a :: us) (.ref a :: vs) Q E hr I.env0 (by
      have := b s (.ref a :: us) I.kIn (by simpa using hl)
      simpa using this) rr h) fun r s' hq => ?_))
  cases r with
  | error e => exact hx pins σ H s e s' I hq
  | ok fl =>
    cases fl with
    | ret u => exact I.after hq
    | next => exact False.elim hq
    | brk => exact False.elim hq
    | cont => exact False.elim hq
theorem inst_keeper {pins : List (Addr × Obj)} {σ : L2.St} {H : Hp} {s : Shared} {M : Model} {a dx : Addr} {fs : List (Str × V)} (I : Inv X pins σ H s) (ho : H a = some (.ins C dx fs)) : Looks M s.heap (keeperOf (.ref a)) .caller := by
  obtain ⟨mA, J, _⟩ := ins_get I.hok ho
  obtain ⟨od, J, _⟩ := J.look
  exact PySem.W.kco_keeper J rfl
/-- an instance is called -/
def kCI (C : Addr) (sp : Sp) (E : XK) (t : TA) (σ : L2.St) (Q : VK) (x : V) (H : Hp) : Prop := ∃ a, x = .ref a ∧ t σ H fun vs H2 => (∃ dx fs, H2 a = some (.ins C dx fs)) ∧ sp (.ref a :: vs) H2 Q E
def tCI (C : Addr) (sp : Sp) (E : XK) (ta : TE) (t : TA) : TE := fun σ H Q => ta σ H (kCI C sp E t σ Q)
theorem inst_go {pins : List (Addr × Obj)} {σ : L2.St} {H : Hp} {s : Shared} {Q : VK} {a : Addr} (D : Dn X.prog X.w X.K X.mg X.base k f ps sp) (c : CI X.K C f) (hr : Room k X.A) (hx : Passes (L2.CX X.prog X.w) X E) (ha : PA X (e :: es) t) (I : Inv X pins σ H s)
    (hst : starEach (e :: es) X.env = (false, eval e X.env) :: starEach es X.env) (hpl : (backTo pos (starEach es X.env)).any (·.1) = false)
    (q : t σ H fun vs H2 => (∃ dx fs, H2 a = some (.ins C dx fs)) ∧ sp (.ref a :: vs) H2 Q E) :
    wpAny (model X.prog X.w) X.A (callWith pos (.ref a) [] (backTo pos (starEach (e :: es) X.env)) []) (EP X pins σ Q) X.xe s := by
  have hs : wpAny (model X.prog X.w) X.A (spliced (backTo pos (starEach (e :: es) X.env))) (fun us s1 => Looks (model X.prog X.w) s1.heap (keeperOf (.ref a)) .caller ∧ wpAny (model X.prog X.w) X.A (call (.ref a) us []) (EP X pins σ Q) X.xe s1) X.xe s :=
    thn (ha.run pos pins s σ H _ I q) fun us s1 ⟨vs, H2, I2, r, ⟨dx, fs, ho⟩, q2⟩ => ⟨inst_keeper I2 ho, run_inst D c hr hx I2 ho r q2⟩
  rw [hst] at hs ⊢
  exact inst_callWith (by show ((false || (backTo pos (starEach es X.env)).any (·.1)) || false) = false; rw [hpl]; rfl) (Calls.evalArgs_plain hs)
theorem pe_ci (D : Dn X.prog X.w X.K X.mg X.base k f ps sp) (c : CI X.K C f) (hr : Room k X.A) (hx : Passes (L2.CX X.prog X.w) X E) (he : PE X (.Name x p) ta) (ha : PA X (e :: es) t)
    (hst : starEach (e :: es) X.env = (false, eval e X.env) :: starEach es X.env := by rfl) (hpl : (backTo pos (starEach es X.env)).any (·.1) = false := by rfl) : PE X (.Call (.Name x p) (e :: es) [] pos) (tCI C sp E ta t) := by
  refine ⟨fun pins s σ H Q I h => ?_⟩
  refine wpAny_Call_Name_kw (thn (he.run pins s σ H _ I h) fun u s1 ⟨y, H1, I1, r1, a, ey, q1⟩ => ?_)
  subst ey
  cases r1
  exact inst_go D c hr hx ha I1 hst hpl q1
/-- .. that is a field -/
def kCF (m : Str) (C : Addr) (sp : Sp) (E : XK) (t : TA) (σ : L2.St) (Q : VK) (C1 : Addr) (x : V) (H : Hp) : Prop := ∃ b dx fs v, x = .ref b ∧ H b = some (.ins C1 dx fs) ∧ fs.lookup m = some v ∧ kCI C sp E t σ Q v H
def tCF (m : Str) (C1 C : Addr) (sp : Sp) (E : XK) (ta : TE) (t : TA) : TE := fun σ H Q => ta σ H (kCF m C sp E t σ Q C1)
theorem pe_cf {pl : Sem Bool} {C1 : Addr} (D : Dn X.prog X.w X.K X.mg X.base k f ps sp) (c : CI X.K C f) (hr : Room k X.A) (hx : Passes (L2.CX X.prog X.w) X E) (c1 : Cls X.K C1) (n1 : NoAttr X.K C1 m) (he : PE X o ta) (ha : PA X (e :: es) t)
    (hst : starEach (e :: es) X.env = (false, eval e X.env) :: starEach es X.env := by rfl) (hpl : (backTo pos (starEach es X.env)).any (·.1) = false := by rfl)
    (ht : eval (.Call (.Attribute o m apos) (e :: es) [] pos) X.env = (do
      let ov ← eval o X.env
      standAt apos.atName
      let (f, first) ← holding [ov] (getMethod ov m pl)
      callWith pos f first (backTo pos (starEach (e :: es) X.env)) (backToKw pos (keywordEach [] X.env))) := by rfl) : PE X (.Call (.Attribute o m apos) (e :: es) [] pos) (tCF m C1 C sp E ta t) := by
  refine ⟨fun pins s σ H Q I h => ?_⟩
  refine PySem.W.methodCall_KW (pl := pl) (thn (he.run pins s σ H _ I h) fun u s1 ⟨y, H1, I1, ry, b, dx, fs, v, ey, ho, hl, q⟩ => ?_) ht
  subst ey
  cases ry
  refine getmeth_fld I1 ho c1 n1 hl fun u s2 I2 rv => ?_
  obtain ⟨a, ev, q⟩ := q
  subst ev
  cases rv
  exact inst_go D c hr hx ha I2 hst hpl q
section
variable {σ : L2.St} {H : Hp} {Q : VK} {a b dx C1 : Addr} {fs : List (Str × V)} {v : V}
instance : Step (tCI C sp E ta t σ H Q) (ta σ H (kCI C sp E t σ Q)) := ⟨fun h => h⟩
instance : Step (tCF m C1 C sp E ta t σ H Q) (ta σ H (kCF m C sp E t σ Q C1)) := ⟨fun h => h⟩
theorem g_kci (q : t σ H fun vs H2 => (∃ dx fs, H2 a = some (.ins C dx fs)) ∧ sp (.ref a :: vs) H2 Q E) : kCI C sp E t σ Q (.ref a) H := ⟨a, rfl, q⟩
theorem g_kcf (ho : H b = some (.ins C1 dx fs)) (hl : fs.lookup m = some v) (q : kCI C sp E t σ Q v H) : kCF m C sp E t σ Q C1 (.ref b) H := ⟨b, dx, fs, v, rfl, ho, hl, q⟩
end
end
/-! the items of a dict that is looked at and not written any more -/
def kLk (Q : VK) (x : V) (H : Hp) : Prop := ∃ d kvs, x = .ref d ∧ H d = some (.dK kvs) ∧ ∀ od, Q (.ref d) (upd H d (.frz od (.dK kvs)))
def tLk (td : TE) : TE := fun σ H Q => td σ H (kLk Q)
section
variable {X : Cx} {e : Expr} {td : TE}
theorem pe_lk (h : PE X e td) : PE X e (tLk td) := by
  refine ⟨fun pins s σ H Q I hw => ?_⟩
  refine thn (h.run pins s σ H _ I hw) fun v s1 ⟨x, H1, I1, r, d, kvs, ex, hd, q⟩ => ?_
  subst ex
  obtain ⟨od, I2⟩ := I1.lock hd True.intro
  exact ⟨_, _, I2, r, q od⟩
theorem g_lk {H0 H : Hp} {M : Addr → Prop} {l : Obj → List Ent} {l0 : List Ent} {d : Addr} {kvs : List (Key × V)} {Q : VK} (S : Sh H0 M H l0) (r : ∀ od, Rep l0 d (.dK kvs) (.frz od (.dK kvs)) (l od)) (q : ∀ od H', Sh H0 M H' (l od) → Q (.ref d) H') : kLk Q (.ref d) H :=
  ⟨d, kvs, rfl, S.has _ (r ⟨.type "dict", none, .plain, #[]⟩).mem, fun od => q od _ (S.put (r od))⟩
instance {σ : L2.St} {H : Hp} {Q : VK} : Step (tLk td σ H Q) (td σ H (kLk Q)) := ⟨fun h => h⟩
/-- .. by the steps: d stays so, item by item -/
def EachI (g : TG) (tb : TS) (D : Ends) (d : Addr) (u : HO) : List (Key × V) → L2.St → Hp → Prop
  | [] => fun σ H => H d = some u ∧ D.nx σ H
  | (k, v) :: r => fun σ H => H d = some u ∧ ∀ T, H T = none → g (.ref T) σ (upd H T (.tup [kV k, v])) fun σ2 H2 => tb { D with nx := EachI g tb D d u r, ct := EachI g tb D d u r, bk := D.nx } σ2 H2
theorem eachI_frz {g : TG} {tb : TS} {D : Ends} {d : Addr} {u : HO} {σ : L2.St} {H : Hp} : ∀ {l : List (Key × V)}, EachI g tb D d u l σ H → H d = some u
  | [], h => h.1
  | _ :: _, h => h.1
def kIt (g : TG) (tb : TS) (D : Ends) (σ : L2.St) (x : V) (H1 : Hp) : Prop := ∃ d o kvs, x = .ref d ∧ H1 d = some (.frz o (.dK kvs)) ∧ ∃ W : Nat → Nat → L2.St → Hp → Prop, (∃ m, W 0 m σ H1) ∧ ∀ i m σ H, W i m σ H →
  ((Iti d o kvs).stop i H ∧ D.nx σ H) ∨ ((Iti d o kvs).go i H ∧ ∃ N : L2.St → Hp → Prop, (∀ σ' H', N σ' H' → ∃ m', m' < m ∧ W (i + 1) m' σ' H') ∧ ∀ x H', (Iti d o kvs).yld i H x H' → g x σ H' fun σ2 H2 => tb { D with nx := N, ct := N, bk := D.nx } σ2 H2)
instance {g : TG} {tb : TS} {D : Ends} {σ : L2.St} {H : Hp} : Step (tFor (iItems (tLk td)) g tb D σ H) (td σ H (kLk (kIt g tb D σ))) := ⟨fun h => h⟩
theorem g_it {g : TG} {tb : TS} {D : Ends} {σ : L2.St} {H : Hp} {d : Addr} {o : Obj} {kvs : List (Key × V)} (hd : H d = some (.frz o (.dK kvs))) (q : EachI g tb D d (.frz o (.dK kvs)) kvs σ H) : kIt g tb D σ (.ref d) H := by
  refine ⟨d, o, kvs, rfl, hd, fun i m σ H => m = kvs.length - i ∧ i ≤ kvs.length ∧ EachI g tb D d (.frz o (.dK kvs)) (kvs.drop i) σ H, ⟨kvs.length, by simp, Nat.zero_le _, q⟩, ?_⟩
  rintro i m σ H ⟨rfl, hi, p⟩
  have hf := eachI_frz p
  by_cases hlt : i < kvs.length
  · refine .inr ⟨⟨hf, hlt⟩, fun σ' H' => EachI g tb D d (.frz o (.dK kvs)) (kvs.drop (i + 1)) σ' H', fun σ' H' p' => ⟨kvs.length - (i + 1), by omega, rfl, hlt, p'⟩, fun x H' y => ?_⟩
    obtain ⟨T, k, v, e, rfl, hT, rfl⟩ := y
    obtain ⟨hi', e2⟩ := List.getElem?_eq_some_iff.mp e
    rw [List.drop_eq_getElem_cons hlt, e2] at p
    exact p.2 T hT
  · have e : i = kvs.length := by omega
    subst e
    rw [List.drop_length] at p
    exact .inl ⟨⟨hf, Nat.le_refl _⟩, p.2⟩
theorem g_each1 {g : TG} {tb : TS} {nx bk ct : L2.St → Hp → Prop} {rt : VK} {σ : L2.St} {H0 H : Hp} {M : Addr → Prop} {l : List Ent} {d : Addr} {u : HO} {k : Key} {v : V} {r : List (Key × V)} (S : Sh H0 M H l) (hd : H d = some u)
    (q : ∀ T H', Sh H0 M H' ((T, .tup [kV k, v], true) :: l) → g (.ref T) σ H' fun σ2 H2 => tb ⟨EachI g tb ⟨nx, rt, bk, ct⟩ d u r, rt, nx, EachI g tb ⟨nx, rt, bk, ct⟩ d u r⟩ σ2 H2) : EachI g tb ⟨nx, rt, bk, ct⟩ d u ((k, v) :: r) σ H :=
  ⟨hd, fun T hT => q T _ (S.new hT)⟩
theorem g_each0 {g : TG} {tb : TS} {nx bk ct : L2.St → Hp → Prop} {rt : VK} {σ : L2.St} {H : Hp} {d : Addr} {u : HO} (hd : H d = some u) (q : nx σ H) : EachI g tb ⟨nx, rt, bk, ct⟩ d u [] σ H := ⟨hd, q⟩
theorem g_tup2 {σ σ1 σ2 : L2.St} {H : Hp} {K : PySem.W.Frag} {p : Addr} {x y : V} {i j : Nat} {P : L2.St → Hp → Prop} [h1 : SetI σ i x σ1] [h2 : SetI σ1 j y σ2] (h : H p = some (.tup [x, y])) (q : P σ2 H) :
    gTup K 2 (gCons (gName i) (gCons (gName j) gNil)) (.ref p) σ H P := by
  refine ⟨p, _, rfl, SqT.of h, rfl, x, _, rfl, y, _, rfl, rfl, ?_⟩
  rw [h1.eq, h2.eq]
  exact q
/-! {k: v for a, b in d.items()} of a dict that is looked at alone -/
def EachC (g : TG) (tt : TT) (tk tv : TE) (vs : List Nat) (σ : L2.St) (Q : VK) (D d : Addr) (u : HO) : List (Key × V) → Hp → Prop
  | [] => fun H => H d = some u ∧ Q (.ref D) H
  | (k, v) :: r => fun H => H d = some u ∧ ∀ T, H T = none → g (.ref T) (wipe σ vs) (upd H T (.tup [kV k, v])) fun σ2 H2 => wipe σ2 vs = wipe σ vs ∧ tt σ2 H2 fun b H3 =>
      if b = true then tk σ2 H3 fun y H4 => tv σ2 H4 fun z H5 => ∃ kvs k, y = kV k ∧ H5 D = some (.dK kvs) ∧ kvs.length < sizeLine ∧ EachC g tt tk tv vs σ Q D d u r (upd H5 D (.dK (putK kvs k z))) else EachC g tt tk tv vs σ Q D d u r H3
theorem eachC_frz {g : TG} {tt : TT} {tk tv : TE} {vs : List Nat} {σ : L2.St} {Q : VK} {D d : Addr} {u : HO} {H : Hp} : ∀ {l : List (Key × V)}, EachC g tt tk tv vs σ Q D d u l H → H d = some u
  | [], h => h.1
  | _ :: _, h => h.1
def kDc (g : TG) (tt : TT) (tk tv : TE) (vs : List Nat) (σ : L2.St) (Q : VK) (x : V) (H1 : Hp) : Prop := ∃ d o kvs, x = .ref d ∧ H1 d = some (.frz o (.dK kvs)) ∧ ∀ D, H1 D = none → ∃ W : Nat → Nat → Hp → Prop, (∃ m, W 0 m (upd H1 D (.dK []))) ∧ ∀ i m H, W i m H →
  ((Iti d o kvs).stop i H ∧ Q (.ref D) H) ∨ ((Iti d o kvs).go i H ∧ ∃ Nx : Hp → Prop, (∀ H', Nx H' → ∃ m', m' < m ∧ W (i + 1) m' H') ∧ ∀ x H', (Iti d o kvs).yld i H x H' → g x (wipe σ vs) H' fun σ2 H2 => wipe σ2 vs = wipe σ vs ∧ tt σ2 H2 fun b H3 =>
    if b = true then tk σ2 H3 fun y H4 => tv σ2 H4 fun z H5 => ∃ kvs k, y = kV k ∧ H5 D = some (.dK kvs) ∧ kvs.length < sizeLine ∧ Nx (upd H5 D (.dK (putK kvs k z))) else Nx H3)
instance {g : TG} {tt : TT} {tk tv : TE} {vs : List Nat} {σ : L2.St} {H : Hp} {Q : VK} : Step (tDc (iItems (tLk td)) g tt tk tv vs σ H Q) (td σ H (kLk (kDc g tt tk tv vs σ Q))) := ⟨fun h => h⟩
theorem g_dc {g : TG} {tt : TT} {tk tv : TE} {vs : List Nat} {σ : L2.St} {H0 H : Hp} {M : Addr → Prop} {l : List Ent} {Q : VK} {d : Addr} {o : Obj} {kvs : List (Key × V)} (S : Sh H0 M H l) (hd : H d = some (.frz o (.dK kvs)))
    (q : ∀ D H', Sh H0 M H' ((D, .dK [], true) :: l) → EachC g tt tk tv vs σ Q D d (.frz o (.dK kvs)) kvs H') : kDc g tt tk tv vs σ Q (.ref d) H := by
  refine ⟨d, o, kvs, rfl, hd, fun D hD => ⟨fun i m H => m = kvs.length - i ∧ i ≤ kvs.length ∧ EachC g tt tk tv vs σ Q D d (.frz o (.dK kvs)) (kvs.drop i) H, ⟨kvs.length, by simp, Nat.zero_le _, q D _ (S.new hD)⟩, ?_⟩⟩
  rintro i m H ⟨rfl, hi, p⟩
  have hf := eachC_frz p
  by_cases hlt : i < kvs.length
  · refine .inr ⟨⟨hf, hlt⟩, fun H' => EachC g tt tk tv vs σ Q D d (.frz o (.dK kvs)) (kvs.drop (i + 1)) H', fun H' p' => ⟨kvs.length - (i + 1), by omega, rfl, hlt, p'⟩, fun x H' y => ?_⟩
    obtain ⟨T, k, v, e, rfl, hT, rfl⟩ := y
    obtain ⟨hi', e2⟩ := List.getElem?_eq_some_iff.mp e
    rw [List.drop_eq_getElem_cons hlt, e2] at p
    exact p.2 T hT
  · have e : i = kvs.length := by omega
    subst e
    rw [List.drop_length] at p
    exact .inl ⟨⟨hf, Nat.le_refl _⟩, p.2⟩
class ClrI (σ : L2.St) (i : Nat) (σ' : outParam L2.St) : Prop where
  eq : σ.set i none = σ'
instance {o : Option V} {r : L2.St} : ClrI (o :: r) 0 (none :: r) := ⟨rfl⟩
instance {o : Option V} {r r' : L2.St} {i : Nat} [h : ClrI r i r'] : ClrI (o :: r) (i + 1) (o :: r') := ⟨by rw [List.set_cons_succ, h.eq]⟩
/-- one turn, its two names in slots i and j -/
def kPut (D : Addr) (P : Hp → Prop) (y : V) (z : V) (H5 : Hp) : Prop := ∃ kvs k, y = kV k ∧ H5 D = some (.dK kvs) ∧ kvs.length < sizeLine ∧ P (upd H5 D (.dK (putK kvs k z)))
theorem g_eachC1 {K : PySem.W.Frag} {i j : Nat} {tk tv : TE} {σ σa σb σ1 σ2 : L2.St} {H0 H : Hp} {M : Addr → Prop} {l : List Ent} {Q : VK} {D d : Addr} {u : HO} {k : Key} {v : V} {r : List (Key × V)} [w1 : ClrI σ j σa] [w2 : ClrI σa i σb] [h1 : SetI σb i (kV k) σ1] [h2 : SetI σ1 j v σ2] (hw : wipe σ2 [i, j] = wipe σ [i, j])
    (S : Sh H0 M H l) (hd : H d = some u)
    (q : ∀ T H', Sh H0 M H' ((T, .tup [kV k, v], true) :: l) → tk σ2 H' fun y H4 => tv σ2 H4 (kPut D (EachC (gTup K 2 (gCons (gName i) (gCons (gName j) gNil))) tYes tk tv [i, j] σ Q D d u r) y)) :
    EachC (gTup K 2 (gCons (gName i) (gCons (gName j) gNil))) tYes tk tv [i, j] σ Q D d u ((k, v) :: r) H := by
  have e : wipe σ [i, j] = σb := by
    show (σ.set j none).set i none = σb
    rw [w1.eq, w2.eq]
  refine ⟨hd, fun T hT => ?_⟩
  rw [e] at hw ⊢
  refine g_tup2 (x := kV k) (y := v) upd_same ⟨hw, ?_⟩
  exact iteT (B := EachC (gTup K 2 (gCons (gName i) (gCons (gName j) gNil))) tYes tk tv [i, j] σ Q D d u r (upd H T (.tup [kV k, v]))) (q T _ (S.new hT))
theorem g_eachC0 {g : TG} {tt : TT} {tk tv : TE} {vs : List Nat} {σ : L2.St} {Q : VK} {D d : Addr} {u : HO} {H : Hp} (hd : H d = some u) (q : Q (.ref D) H) : EachC g tt tk tv vs σ Q D d u [] H := ⟨hd, q⟩
theorem g_kput {H0 H : Hp} {M : Addr → Prop} {l l' : List Ent} {D : Addr} {P : Hp → Prop} {kvs kvs' : List (Key × V)} {s : Str} {z : V} (S : Sh H0 M H l) (r : Rep l D (.dK kvs) (.dK kvs') l') (hn : Nat.blt kvs.length 1000 = true) (e : putK kvs (.inr s) z = kvs') (q : ∀ H', Sh H0 M H' l' → P H') : kPut D P (.str s) z H := by
  subst e
  exact ⟨_, .inr s, rfl, S.has _ r.mem, Nat.lt_trans (Nat.le_of_ble_eq_true hn) (small1000 (Nat.le_refl _)), q _ (S.put r)⟩
end
/-- list(d) -/
def rListK : List V → Hp → VK → Prop := fun xs H Q => ∃ (a : Addr) (kvs : List (Key × V)), xs = [.ref a] ∧ Rd H a (.dK kvs) ∧ ∀ p, H p = none → Q (.ref p) (upd H p (.lst (kvs.map fun kv => kV kv.1)))
theorem cl_listK {X : Cx} (hc : X.calm = true) : CallR X (.type "list") rListK := call_listD hc
theorem g_listKf {H0 H : Hp} {M : Addr → Prop} {l : List Ent} {Q : VK} {a : Addr} {o : Obj} {kvs : List (Key × V)} (S : Sh H0 M H l) (h : H a = some (.frz o (.dK kvs))) (q : ∀ p H', H p = none → Sh H0 M H' ((p, .lst (kvs.map fun kv => kV kv.1), true) :: l) → Q (.ref p) H') : rListK [.ref a] H Q :=
  ⟨a, kvs, rfl, .inr ⟨o, h⟩, fun p hp => q p _ hp (S.new hp)⟩
/-- == of two dicts that are equal -/
theorem op_eqDA {X : Cx} (hu : X.A.units < cLine) : OpR X (compareOp .Eq) rEqDA := op_eq_dictA hu
theorem g_eqDA {H : Hp} {Q : VK} {a b : Addr} {ks : List (Key × V)} (ha : H a = some (.dK ks)) (hb : H b = some (.dK ks)) (hp : ∀ p ∈ ks, valV ks p.1 = some p.2 ∧ flatB p.2 = true) (q : Q (.bl true) H) : rEqDA (.ref a) (.ref b) H Q := ⟨a, b, ks, ks, rfl, rfl, ha, hb, rfl, hp, q⟩
theorem g_eqN {H : Hp} {Q : VK} (q : Q (.bl true) H) : rEq .non .non H Q := ⟨rfl, by simpa using q⟩
instance {C : Addr} {sp : Sp} {E : XK} {H : Hp} {Q : VK} {y : V} {a : Addr} : Step (rGI C sp E (.ref a) y H Q) (∃ dx fs, H a = some (.ins C dx fs) ∧ sp [.ref a, y] H Q E) := ⟨fun ⟨dx, fs, h, q⟩ => ⟨a, dx, fs, rfl, h, q⟩⟩
/-! the facts as truths -/
def giB (K : PySem.W.Frag) (C f : Addr) : Bool := PySem.W.noSeq K C && (He.eqO (PySem.W.findIn K (.ref C) "__getitem__") (some (some (.ref f))) && (PySem.W.isFn K (.ref f) && PySem.W.fnIn K f))
theorem giB_ok {K : PySem.W.Frag} {C f : Addr} (h : giB K C f = true) : GI K C f := by
  obtain ⟨h1, h⟩ := He.ba h
  obtain ⟨h2, h⟩ := He.ba h
  obtain ⟨h3, h4⟩ := He.ba h
  exact ⟨h1, He.eqO_ok h2, h3, h4⟩
def ciB (K : PySem.W.Frag) (C f : Addr) : Bool := He.eqO (PySem.W.findIn K (.ref C) "__call__") (some (some (.ref f))) && (PySem.W.isFn K (.ref f) && PySem.W.fnIn K f)
theorem ciB_ok {K : PySem.W.Frag} {C f : Addr} (h : ciB K C f = true) : CI K C f := by
  obtain ⟨h2, h⟩ := He.ba h
  obtain ⟨h3, h4⟩ := He.ba h
  exact ⟨He.eqO_ok h2, h3, h4⟩
end AF
/-! loops over a short list, small dict displays, a, b, c = x, y, z; objects made with a part of their own -/
namespace AF
open PySem PySem.Spec PyProof.Rows L2
section
variable {K : PySem.W.Frag} {H0 H H' : Hp} {M : Addr → Prop} {l l' : List Ent} {p q : Addr} {o o' o2 : HO}
/-- p is changed, q is new -/
theorem Sh.ch1n (S : Sh H0 M H l) (r : Rep l p o o' l') (c : Ch [p] H H') (h : H' p = some o') (hn : H q = none) (hq : H' q = some o2) : Sh H0 M H' ((q, o2, true) :: l') := by
  have S' := S.ch1 r c h
  refine ⟨S'.fr, fun e he => ?_, ?_, fun e he hm => ?_⟩
  · rcases List.mem_cons.mp he with h1 | h1
    · rw [h1]; exact hq
    · exact S'.has e h1
  · rw [List.map_cons, List.pairwise_cons]
    refine ⟨fun t ht _ z => ?_, S'.ap⟩
    rw [r.tags] at ht
    obtain ⟨e, he, rfl⟩ := List.mem_map.mp ht
    have z' : q = e.1 := z
    have := S.has e he
    rw [← z', hn] at this; cases this
  · rcases List.mem_cons.mp he with h1 | h1
    · rw [h1]
      by_cases k : M q
      · exact .inl k
      · refine .inr ?_
        cases e0 : H0 q with
        | none => rfl
        | some u => rw [S.fr q u e0 k] at hn; cases hn
    · exact S'.mu e h1 hm
/-- two are changed -/
theorem Sh.ch2 {l2 : List Ent} {q' : Addr} {u u' : HO} (S : Sh H0 M H l) (r : Rep l p o o' l') (r2 : Rep l' q' u u' l2) (c : Ch [p, q'] H H') (h : H' p = some o') (h2 : H' q' = some u') : Sh H0 M H' l2 :=
  (S.put r).ch1 r2 (fun b w hb hn => by
    by_cases e : b = p
    · subst e
      rw [upd_same] at hb
      rw [h, ← hb]
    · rw [upd_ne e] at hb
      exact c b w hb (by simp only [List.mem_cons, List.not_mem_nil, or_false] at hn ⊢; intro z; rcases z with z | z; exact e z; exact hn z)) h2
/-- .. and one more is new -/
theorem Sh.ch2n {l2 : List Ent} {q' n : Addr} {u u' on : HO} (S : Sh H0 M H l) (r : Rep l p o o' l') (r2 : Rep l' q' u u' l2) (c : Ch [p, q'] H H') (h : H' p = some o') (h2 : H' q' = some u') (hn : H n = none) (hq : H' n = some on) : Sh H0 M H' ((n, on, true) :: l2) := by
  have S1 := S.put r
  have ep : H p = some o := S.has _ r.mem
  have eq : upd H p o' q' = some u := S1.has _ r2.mem
  have np : n ≠ p := fun z => by rw [z, ep] at hn; cases hn
  have n1 : upd H p o' n = none := by rw [upd_ne np]; exact hn
  have nq : n ≠ q' := fun z => by rw [z, eq] at n1; cases n1
  refine (S1.put r2).add (fun b w hb _ => ?_) (by rw [upd_ne nq]; exact n1) hq
  by_cases e : b = q'
  · subst e
    rw [upd_same] at hb
    rw [h2, ← hb]
  · rw [upd_ne e] at hb
    by_cases e1 : b = p
    · subst e1
      rw [upd_same] at hb
      rw [h, ← hb]
    · rw [upd_ne e1] at hb
      exact c b w hb (by simp only [List.mem_cons, List.not_mem_nil, or_false]; intro z; rcases z with z | z; exact e1 z; exact e z)
end
/-- an object made with a part of its own -/
theorem g_kmake2 {H0 : Hp} {M : Addr → Prop} {H : Hp} {l : List Ent} {C : Addr} {sp : Sp} {E : XK} {Q : VK} {vs : List V} {fs : Addr → List (Str × V)} {o : HO} (S : Sh H0 M H l)
    (h : ∀ (x dx : Addr) (H1 : Hp) (Q' : VK), H1 x = some (.ins C dx []) → Sh H0 M H1 ((x, .ins C dx [], true) :: (dx, .own x, true) :: l) → (∀ nd H2, H1 nd = none → Ch [x] H1 H2 → H2 x = some (.ins C dx (fs nd)) → H2 nd = some o → Q' .non H2) → sp (.ref x :: vs) H1 Q' E)
    (q : ∀ x dx nd H', Sh H0 M H' ((nd, o, true) :: (x, .ins C dx (fs nd), true) :: l) → Q (.ref x) H') : kMake C sp E Q vs H := by
  intro x dx hx hd ne
  have S1 := (S.new (o := .own x) hd).new (p := x) (o := .ins C dx []) (by rw [upd_ne (Ne.symm ne)]; exact hx)
  refine h x dx _ _ (S1.has_ .here) S1 fun nd H2 hn c h2 h3 => ⟨rfl, q x dx nd H2 ?_⟩
  have S2 := S1.ch1n (q := nd) .here c h2 hn h3
  refine ⟨S2.fr, fun e he => ?_, ?_, fun e he hm => ?_⟩
  · rcases List.mem_cons.mp he with z | z
    · exact S2.has e (z ▸ List.mem_cons_self)
    · rcases List.mem_cons.mp z with z | z
      · exact S2.has e (z ▸ List.mem_cons_of_mem _ List.mem_cons_self)
      · exact S2.has e (List.mem_cons_of_mem _ (List.mem_cons_of_mem _ (List.mem_cons_of_mem _ z)))
  · have ap := S2.ap
    simp only [List.map_cons, List.pairwise_cons] at ap ⊢
    refine ⟨fun t ht => ap.1 t ?_, fun t ht => ap.2.1 t (List.mem_cons_of_mem _ ht), ap.2.2.2⟩
    rcases List.mem_cons.mp ht with z | z
    · rw [z]; exact List.mem_cons_self
    · exact List.mem_cons_of_mem _ (List.mem_cons_of_mem _ z)
  · rcases List.mem_cons.mp he with z | z
    · exact S2.mu e (z ▸ List.mem_cons_self) hm
    · rcases List.mem_cons.mp z with z | z
      · exact S2.mu e (z ▸ List.mem_cons_of_mem _ List.mem_cons_self) hm
      · exact S2.mu e (List.mem_cons_of_mem _ (List.mem_cons_of_mem _ (List.mem_cons_of_mem _ z))) hm
/-! a short list, item by item -/
def EachL (g : TG) (tb : TS) (D : Ends) (a : Addr) (u : HO) : List V → L2.St → Hp → Prop
  | [] => fun σ H => H a = some u ∧ D.nx σ H
  | x :: r => fun σ H => H a = some u ∧ g x σ H fun σ2 H2 => tb { D with nx := EachL g tb D a u r, ct := EachL g tb D a u r, bk := D.nx } σ2 H2
theorem eachL_at {g : TG} {tb : TS} {D : Ends} {d : Addr} {u : HO} {σ : L2.St} {H : Hp} : ∀ {l : List V}, EachL g tb D d u l σ H → H d = some u
  | [], h => h.1
  | _ :: _, h => h.1
def kLs (K : PySem.W.Frag) (g : TG) (tb : TS) (D : Ends) (σ : L2.St) (x : V) (H1 : Hp) : Prop := ∃ a, x = .ref a ∧ (∃ xs, SqL K H1 a xs) ∧ ∃ W : Nat → Nat → L2.St → Hp → Prop, (∃ m, W 0 m σ H1) ∧ ∀ i m σ H, W i m σ H →
  ((Itl K a).stop i H ∧ D.nx σ H) ∨ ((Itl K a).go i H ∧ ∃ N : L2.St → Hp → Prop, (∀ σ' H', N σ' H' → ∃ m', m' < m ∧ W (i + 1) m' σ' H') ∧ ∀ x H', (Itl K a).yld i H x H' → g x σ H' fun σ2 H2 => tb { D with nx := N, ct := N, bk := D.nx } σ2 H2)
section
variable {K : PySem.W.Frag} {td : TE}
instance {g : TG} {tb : TS} {D : Ends} {σ : L2.St} {H : Hp} : Step (tFor (iList K td) g tb D σ H) (td σ H (kLs K g tb D σ)) := ⟨fun h => h⟩
theorem g_ls {g : TG} {tb : TS} {D : Ends} {σ : L2.St} {H : Hp} {a : Addr} {xs : List V} (hd : H a = some (.lst xs)) (q : EachL g tb D a (.lst xs) xs σ H) : kLs K g tb D σ (.ref a) H := by
  refine ⟨a, rfl, ⟨xs, SqL.of hd⟩, for_list (K := K) (xs := xs) (fun i σ H => EachL g tb D a (.lst xs) (xs.drop i) σ H) q (fun _ _ _ _ p => SqL.of (eachL_at p)) (fun i x σ H hx p => ?_) fun σ H p => ?_⟩
  · obtain ⟨hi, e⟩ := List.getElem?_eq_some_iff.mp hx
    rw [List.drop_eq_getElem_cons hi, e] at p
    exact p.2
  · rw [List.drop_length] at p
    exact p.2
theorem g_eachl1 {g : TG} {tb : TS} {nx bk ct : L2.St → Hp → Prop} {rt : VK} {σ : L2.St} {H : Hp} {d : Addr} {u : HO} {x : V} {r : List V} (hd : H d = some u)
    (q : g x σ H fun σ2 H2 => tb ⟨EachL g tb ⟨nx, rt, bk, ct⟩ d u r, rt, nx, EachL g tb ⟨nx, rt, bk, ct⟩ d u r⟩ σ2 H2) : EachL g tb ⟨nx, rt, bk, ct⟩ d u (x :: r) σ H := ⟨hd, q⟩
theorem g_eachl0 {g : TG} {tb : TS} {nx bk ct : L2.St → Hp → Prop} {rt : VK} {σ : L2.St} {H : Hp} {d : Addr} {u : HO} (hd : H d = some u) (q : nx σ H) : EachL g tb ⟨nx, rt, bk, ct⟩ d u [] σ H := ⟨hd, q⟩
end
/-! {k: v} -/
theorem g_disp1 {H0 H : Hp} {M : Addr → Prop} {l : List Ent} {σ : L2.St} {Q : VK} {s : Str} {v : V} (S : Sh H0 M H l) (q : ∀ p H', H p = none → Sh H0 M H' ((p, .dK [(.inr s, v)], true) :: l) → Q (.ref p) H') : tDisp [(tC (.str s), tC v)] σ H Q := by
  intro p hp
  refine ⟨upd_same, [(.inr s, v)], rfl, Nat.le_of_ble_eq_true rfl, ?_⟩
  refine q p _ hp ?_
  have S1 := S.new (p := p) (o := .dK []) hp
  exact S1.put .here
/-! a, b, c = x, y, z -/
def kPar3 (nx : L2.St → Hp → Prop) (σ : L2.St) (i j k : Nat) (vs : List V) (H : Hp) : Prop := ∃ u v w, vs = [u, v, w] ∧ nx (((σ.set i (some u)).set j (some v)).set k (some w)) H
section
variable {σ σ1 σ2 σ3 : L2.St} {H : Hp} {nx : L2.St → Hp → Prop} {rt : VK} {bk ct : L2.St → Hp → Prop} {i j k : Nat} {tr : TA} {x y z : V}
instance : Step (tPar3 i j k tr ⟨nx, rt, bk, ct⟩ σ H) (tr σ H (kPar3 nx σ i j k)) := ⟨fun h => h⟩
instance [h : SetI σ i x σ1] [h2 : SetI σ1 j y σ2] [h3 : SetI σ2 k z σ3] : Step (kPar3 nx σ i j k [x, y, z] H) (nx σ3 H) := ⟨fun q => ⟨x, y, z, rfl, by rw [h.eq, h2.eq, h3.eq]; exact q⟩⟩
end
/-! deep == and != of unlike things -/
section
variable {H : Hp} {Q : VK} {x y : V} {K : PySem.W.Frag} {d e : PyData} {r : Bool}
theorem g_eqD2 (hx : Dp K H x d) (hy : Dp K H y e) (sd : SeqAt.shaped d = true) (se : SeqAt.shaped e = true) (hr : PyData.eqv d e = r) (q : Q (.bl r) H) : rEqD K x y H Q := ⟨d, e, hx, hy, sd, se, by rw [hr]; exact q⟩
theorem g_neD2 (hx : Dp K H x d) (hy : Dp K H y e) (sd : SeqAt.shaped d = true) (se : SeqAt.shaped e = true) (hr : PyData.eqv d e = r) (q : Q (.bl (!r)) H) : rNeD K x y H Q := ⟨d, e, hx, hy, sd, se, by rw [hr]; exact q⟩
theorem dp_str {x : Str} : Dp K H (.str x) (.str x) := .str x
end
/-! a place of a list -/
theorem g_ixW {H : Hp} {Q : VK} {K : PySem.W.Frag} {p : Addr} {xs : List V} {i : Int} (h : H p = some (.lst xs)) (h0 : 0 ≤ i) (h1 : i < xs.length) (q : ∀ v, v ∈ xs → Q v H) : rIxL K (.ref p) (.int i) H Q := by
  obtain ⟨v, hv, e⟩ := atI_some h0 h1
  exact ⟨p, xs, i, v, rfl, rfl, SqL.of h, e, q v hv⟩
/-- a helper that draws one item of a list -/
def spPick : Sp := fun vs H Q _ => ∃ (a p : Addr) (n s : Int) (xs : List V), vs = [.ref a, .ref p] ∧ H a = some (.lst [.int n, .int s]) ∧ Sd n s ∧ H p = some (.lst xs) ∧ 1 ≤ xs.length ∧ xs.length ≤ 1000 ∧ p ≠ a ∧
  ∀ (v : V) (n' s' : Int) (H' : Hp), Ch [a] H H' → H' a = some (.lst [.int n', .int s']) → v ∈ xs → Sd n' s' → Q v H'
theorem use_pick {H0 : Hp} {M : Addr → Prop} {H : Hp} {l : List Ent} {l' : Int → Int → List Ent} {a p : Addr} {n s : Int} {xs : List V} {Q : VK} {E : XK} (S : Sh H0 M H l) (r : ∀ n' s', Rep l a (.lst [.int n, .int s]) (.lst [.int n', .int s']) (l' n' s')) (hs : Sd n s)
    (o : On l p (.lst xs)) (h1 : 1 ≤ xs.length) (h2 : xs.length ≤ 1000) (hne : p ≠ a) (q : ∀ v n' s' H', v ∈ xs → Sd n' s' → Sh H0 M H' (l' n' s') → Q v H') : spPick [.ref a, .ref p] H Q E :=
  ⟨a, p, n, s, xs, rfl, S.has _ (r n s).mem, hs, S.has_ o, h1, h2, hne, fun v n' s' H' c h p1 p3 => q v n' s' H' p1 p3 (S.ch1 (r n' s') c h)⟩
end AF
/-! comprehensions and loops over lists, tuples, keys, item by item; dicts of numbers compared; displays *-/
namespace AF
open PySem PySem.Spec PyProof.Rows L2
/-! a comprehension over a list or tuple that stays, item by item -/
def EachQ (g : TG) (tt : TT) (te : TE) (vs : List Nat) (σ : L2.St) (Q : VK) (D : Addr) (In : Hp → Prop) : List V → Hp → Prop
  | [] => fun H => In H ∧ Q (.ref D) H
  | x :: r => fun H => In H ∧ g x (wipe σ vs) H fun σ2 H2 => wipe σ2 vs = wipe σ vs ∧ tt σ2 H2 fun b H3 => if b = true then te σ2 H3 (kEl D (EachQ g tt te vs σ Q D In r)) else EachQ g tt te vs σ Q D In r H3
section
variable {K : PySem.W.Frag} {td : TE} {g : TG} {tt : TT} {te : TE} {vs : List Nat} {σ σ' : L2.St} {Q : VK} {H0 H : Hp} {M : Addr → Prop} {l l' : List Ent} {D a : Addr} {In : Hp → Prop} {xs r : List V} {x : V}
theorem eachQ_in : ∀ {l : List V} {H : Hp}, EachQ g tt te vs σ Q D In l H → In H
  | [], _, h => h.1
  | _ :: _, _, h => h.1
def kLcL (K : PySem.W.Frag) (g : TG) (tt : TT) (te : TE) (vs : List Nat) (σ : L2.St) (Q : VK) (x : V) (H1 : Hp) : Prop := ∃ a, x = .ref a ∧ (∃ xs, SqL K H1 a xs) ∧ ∀ D, H1 D = none → ∃ W : Nat → Nat → Hp → Prop, (∃ m, W 0 m (upd H1 D (.lst []))) ∧ ∀ i m H, W i m H →
  ((Itl K a).stop i H ∧ Q (.ref D) H) ∨ ((Itl K a).go i H ∧ ∃ Nx : Hp → Prop, (∀ H', Nx H' → ∃ m', m' < m ∧ W (i + 1) m' H') ∧ ∀ x H', (Itl K a).yld i H x H' → g x (wipe σ vs) H' fun σ2 H2 => wipe σ2 vs = wipe σ vs ∧ tt σ2 H2 fun b H3 =>
    if b = true then te σ2 H3 fun y H4 => ∃ acc, H4 D = some (.lst acc) ∧ acc.length < sizeLine ∧ Nx (upd H4 D (.lst (acc ++ [y]))) else Nx H3)
def kLcT (K : PySem.W.Frag) (g : TG) (tt : TT) (te : TE) (vs : List Nat) (σ : L2.St) (Q : VK) (x : V) (H1 : Hp) : Prop := ∃ a, x = .ref a ∧ (∃ xs, SqT K H1 a xs) ∧ ∀ D, H1 D = none → ∃ W : Nat → Nat → Hp → Prop, (∃ m, W 0 m (upd H1 D (.lst []))) ∧ ∀ i m H, W i m H →
  ((Itt K a).stop i H ∧ Q (.ref D) H) ∨ ((Itt K a).go i H ∧ ∃ Nx : Hp → Prop, (∀ H', Nx H' → ∃ m', m' < m ∧ W (i + 1) m' H') ∧ ∀ x H', (Itt K a).yld i H x H' → g x (wipe σ vs) H' fun σ2 H2 => wipe σ2 vs = wipe σ vs ∧ tt σ2 H2 fun b H3 =>
    if b = true then te σ2 H3 fun y H4 => ∃ acc, H4 D = some (.lst acc) ∧ acc.length < sizeLine ∧ Nx (upd H4 D (.lst (acc ++ [y]))) else Nx H3)
instance : Step (tLc (iList K td) g tt te vs σ H Q) (td σ H (kLcL K g tt te vs σ Q)) := ⟨fun h => h⟩
instance : Step (tLc (iTup K td) g tt te vs σ H Q) (td σ H (kLcT K g tt te vs σ Q)) := ⟨fun h => h⟩
theorem g_lcL (In : Hp → Prop) (hi : ∀ H, In H → SqL K H a xs) (h0 : SqL K H a xs) (S : Sh H0 M H l) (q : ∀ D H', H D = none → Sh H0 M H' ((D, .lst [], true) :: l) → EachQ g tt te vs σ Q D In xs H') : kLcL K g tt te vs σ Q (.ref a) H :=
  ⟨a, rfl, ⟨xs, h0⟩, fun D hD => lc_list (K := K) (xs := xs) (fun i H => EachQ g tt te vs σ Q D In (xs.drop i) H) (q D _ hD (S.new hD)) (fun _ _ _ p => hi _ (eachQ_in p)) (fun i x H hx p => by
    obtain ⟨hlt, e⟩ := List.getElem?_eq_some_iff.mp hx
    rw [List.drop_eq_getElem_cons hlt, e] at p
    exact p.2) fun H p => by
      rw [List.drop_length] at p
      exact p.2⟩
theorem g_lcT (In : Hp → Prop) (hi : ∀ H, In H → SqT K H a xs) (h0 : SqT K H a xs) (S : Sh H0 M H l) (q : ∀ D H', H D = none → Sh H0 M H' ((D, .lst [], true) :: l) → EachQ g tt te vs σ Q D In xs H') : kLcT K g tt te vs σ Q (.ref a) H :=
  ⟨a, rfl, ⟨xs, h0⟩, fun D hD => lc_tup (K := K) (xs := xs) (fun i H => EachQ g tt te vs σ Q D In (xs.drop i) H) (q D _ hD (S.new hD)) (fun _ _ _ p => hi _ (eachQ_in p)) (fun i x H hx p => by
    obtain ⟨hlt, e⟩ := List.getElem?_eq_some_iff.mp hx
    rw [List.drop_eq_getElem_cons hlt, e] at p
    exact p.2) fun H p => by
      rw [List.drop_length] at p
      exact p.2⟩
/-- one item, its name in slot k, all taken -/
theorem g_eachQ1 {k : Nat} {σa σ1 : L2.St} [w1 : ClrI σ k σa] [h1 : SetI σa k x σ1] (hw : wipe σ1 [k] = wipe σ [k]) (hin : In H) (q : te σ1 H (kEl D (EachQ (gName k) tYes te [k] σ Q D In r))) : EachQ (gName k) tYes te [k] σ Q D In (x :: r) H := by
  have e : wipe σ [k] = σa := by
    show σ.set k none = σa
    exact w1.eq
  refine ⟨hin, ?_⟩
  rw [e] at hw ⊢
  show wipe (σa.set k (some x)) [k] = σa ∧ _
  rw [h1.eq]
  exact ⟨hw, iteT (B := EachQ (gName k) tYes te [k] σ Q D In r H) q⟩
/-- one item, by a test -/
theorem g_eachQt {k : Nat} {σa σ1 : L2.St} [w1 : ClrI σ k σa] [h1 : SetI σa k x σ1] (hw : wipe σ1 [k] = wipe σ [k]) (hin : In H) (q : tt σ1 H fun b H3 => if b = true then te σ1 H3 (kEl D (EachQ (gName k) tt te [k] σ Q D In r)) else EachQ (gName k) tt te [k] σ Q D In r H3) : EachQ (gName k) tt te [k] σ Q D In (x :: r) H := by
  have e : wipe σ [k] = σa := by
    show σ.set k none = σa
    exact w1.eq
  refine ⟨hin, ?_⟩
  rw [e] at hw ⊢
  show wipe (σa.set k (some x)) [k] = σa ∧ _
  rw [h1.eq]
  exact ⟨hw, q⟩
theorem g_eachQ0 (hin : In H) (q : Q (.ref D) H) : EachQ g tt te vs σ Q D In [] H := ⟨hin, q⟩
end
/-! a loop over a tuple that stays -/
def EachG (g : TG) (tb : TS) (D : Ends) (In : Hp → Prop) : List V → L2.St → Hp → Prop
  | [] => fun σ H => In H ∧ D.nx σ H
  | x :: r => fun σ H => In H ∧ g x σ H fun σ2 H2 => tb { D with nx := EachG g tb D In r, ct := EachG g tb D In r, bk := D.nx } σ2 H2
section
variable {K : PySem.W.Frag} {g : TG} {tb : TS} {D : Ends} {In : Hp → Prop} {σ σ' : L2.St} {H : Hp} {a : Addr} {xs r : List V} {x : V} {nx bk ct : L2.St → Hp → Prop} {rt : VK}
theorem eachG_in : ∀ {l : List V} {σ : L2.St} {H : Hp}, EachG g tb D In l σ H → In H
  | [], _, _, h => h.1
  | _ :: _, _, _, h => h.1
theorem g_turnG (In : Hp → Prop) (hi : ∀ H, In H → SqT K H a xs) (h0 : SqT K H a xs) (q : EachG g tb D In xs σ H) : kTurn K g tb D σ (.ref a) H := by
  refine ⟨a, rfl, ⟨xs, h0⟩, for_tup (fun i σ H => EachG g tb D In (xs.drop i) σ H) q (fun _ _ _ _ p => hi _ (eachG_in p)) (fun i x σ H hx p => ?_) fun σ H p => ?_⟩
  · obtain ⟨hlt, e⟩ := List.getElem?_eq_some_iff.mp hx
    rw [List.drop_eq_getElem_cons hlt, e] at p
    exact p.2
  · rw [List.drop_length] at p
    exact p.2
theorem g_eachG1 {i : Nat} [s : SetI σ i x σ'] (hin : In H) (q : tb ⟨EachG (gName i) tb ⟨nx, rt, bk, ct⟩ In r, rt, nx, EachG (gName i) tb ⟨nx, rt, bk, ct⟩ In r⟩ σ' H) : EachG (gName i) tb ⟨nx, rt, bk, ct⟩ In (x :: r) σ H := ⟨hin, by
  show tb _ (σ.set i (some x)) H
  rw [s.eq]
  exact q⟩
theorem g_eachG0 (hin : In H) (q : nx σ H) : EachG g tb ⟨nx, rt, bk, ct⟩ In [] σ H := ⟨hin, q⟩
end
/-! the keys of a dict that is looked at alone -/
def EachK (g : TG) (tb : TS) (D : Ends) (d : Addr) (u : HO) : List (Key × V) → L2.St → Hp → Prop
  | [] => fun σ H => H d = some u ∧ D.nx σ H
  | (k, _) :: r => fun σ H => H d = some u ∧ g (kV k) σ H fun σ2 H2 => tb { D with nx := EachK g tb D d u r, ct := EachK g tb D d u r, bk := D.nx } σ2 H2
section
variable {td : TE} {g : TG} {tb : TS} {D : Ends} {σ σ' : L2.St} {H : Hp} {d : Addr} {u : HO} {o : Obj} {kvs r : List (Key × V)} {k : Key} {v : V} {nx bk ct : L2.St → Hp → Prop} {rt : VK}
theorem eachK_frz : ∀ {l : List (Key × V)} {σ : L2.St} {H : Hp}, EachK g tb D d u l σ H → H d = some u
  | [], _, _, h => h.1
  | _ :: _, _, _, h => h.1
def ForOk (I : It) (g : TG) (tb : TS) (D : Ends) (σ : L2.St) (H1 : Hp) : Prop := ∃ W : Nat → Nat → L2.St → Hp → Prop, (∃ m, W 0 m σ H1) ∧ ∀ i m σ H, W i m σ H →
  (I.stop i H ∧ D.nx σ H) ∨ (I.go i H ∧ ∃ N : L2.St → Hp → Prop, (∀ σ' H', N σ' H' → ∃ m', m' < m ∧ W (i + 1) m' σ' H') ∧ ∀ x H', I.yld i H x H' → g x σ H' fun σ2 H2 => tb { D with nx := N, ct := N, bk := D.nx } σ2 H2)
def kKs (g : TG) (tb : TS) (D : Ends) (σ : L2.St) (x : V) (H1 : Hp) : Prop := ∃ d o, x = .ref d ∧ ((∃ kvs, H1 d = some (.frz o (.dK kvs)) ∧ ForOk (Itk d o kvs) g tb D σ H1) ∨ ∃ kvs, H1 d = some (.frz o (.dT kvs)) ∧ ForOk (Itkt d o kvs) g tb D σ H1)
instance : Step (tFor (iKeys (tLk td)) g tb D σ H) (td σ H (kLk (kKs g tb D σ))) := ⟨fun h => h⟩
theorem g_keys (hd : H d = some (.frz o (.dK kvs))) (q : EachK g tb D d (.frz o (.dK kvs)) kvs σ H) : kKs g tb D σ (.ref d) H := by
  refine ⟨d, o, rfl, .inl ⟨kvs, hd, fun i m σ H => m = kvs.length - i ∧ i ≤ kvs.length ∧ EachK g tb D d (.frz o (.dK kvs)) (kvs.drop i) σ H, ⟨kvs.length, by simp, Nat.zero_le _, q⟩, ?_⟩⟩
  rintro i m σ H ⟨rfl, hi, p⟩
  have hf := eachK_frz p
  by_cases hlt : i < kvs.length
  · refine .inr ⟨⟨hf, hlt⟩, fun σ' H' => EachK g tb D d (.frz o (.dK kvs)) (kvs.drop (i + 1)) σ' H', fun σ' H' p' => ⟨kvs.length - (i + 1), by omega, rfl, hlt, p'⟩, fun x H' y => ?_⟩
    obtain ⟨rfl, k, v, e, rfl⟩ := y
    obtain ⟨hi', e2⟩ := List.getElem?_eq_some_iff.mp e
    rw [List.drop_eq_getElem_cons hlt, e2] at p
    exact p.2
  · have e : i = kvs.length := by omega
    subst e
    rw [List.drop_length] at p
    exact .inl ⟨⟨hf, Nat.le_refl _⟩, p.2⟩
theorem g_eachK1 {i : Nat} [s : SetI σ i (kV k) σ'] (hin : H d = some u) (q : tb ⟨EachK (gName i) tb ⟨nx, rt, bk, ct⟩ d u r, rt, nx, EachK (gName i) tb ⟨nx, rt, bk, ct⟩ d u r⟩ σ' H) : EachK (gName i) tb ⟨nx, rt, bk, ct⟩ d u ((k, v) :: r) σ H := ⟨hin, by
  show tb _ (σ.set i (some (kV k))) H
  rw [s.eq]
  exact q⟩
theorem g_eachKs {i : Nat} {z : Str} [s : SetI σ i (.str z) σ'] (hin : H d = some u) (q : tb ⟨EachK (gName i) tb ⟨nx, rt, bk, ct⟩ d u r, rt, nx, EachK (gName i) tb ⟨nx, rt, bk, ct⟩ d u r⟩ σ' H) : EachK (gName i) tb ⟨nx, rt, bk, ct⟩ d u ((.inr z, v) :: r) σ H := ⟨hin, by
  show tb _ (σ.set i (some (.str z))) H
  rw [s.eq]
  exact q⟩
theorem g_dgF {a : Addr} {z : Str} {Q : VK} (h : H a = some (.frz o (.dK kvs))) (e : valV kvs (.inr z) = some v) (q : Q v H) : kDG Q (.ref a) (.str z) H :=
  ⟨a, v, rfl, .inl ⟨kvs, .inr z, .inr ⟨o, h⟩, rfl, e.symm⟩, q⟩
theorem g_eachK0 (hin : H d = some u) (q : nx σ H) : EachK g tb ⟨nx, rt, bk, ct⟩ d u [] σ H := ⟨hin, q⟩
end
/-! a loop over range(1, n) -/
def Loop2 (lo : Int) (n : Nat) (g : TG) (tb : TS) (D : Ends) (σ : L2.St) (H : Hp) : Prop := ForOk (Itr lo n) g tb D σ H
def kR2 (P : Int → Int → Hp → Prop) (vs : List V) (H : Hp) : Prop := ∃ i j : Int, vs = [.int i, .int j] ∧ (-(2 ^ 62) ≤ i ∧ i < 2 ^ 62 ∧ -(2 ^ 62) ≤ j ∧ j < 2 ^ 62) ∧ P i j H
section
variable {σ : L2.St} {H : Hp} {ta : TA} {g : TG} {tb : TS} {D : Ends} {i j : Int}
instance : Step (tFor (iRng2 ta) g tb D σ H) (ta σ H (kR2 fun i j H1 => Loop2 i (j - i).toNat g tb D σ H1)) := ⟨fun h => h⟩
theorem g_kR2 {P : Int → Int → Hp → Prop} (h1 : -(2 ^ 62) ≤ i) (h2 : i < 2 ^ 62) (h3 : -(2 ^ 62) ≤ j) (h4 : j < 2 ^ 62) (q : P i j H) : kR2 P [.int i, .int j] H := ⟨i, j, rfl, ⟨h1, h2, h3, h4⟩, q⟩
theorem g_loop2 {lo : Int} {n k : Nat} {nx : L2.St → Hp → Prop} {rt : VK} {bk ct : L2.St → Hp → Prop} (Pv : Nat → L2.St → Hp → Prop) (h0 : Pv 0 σ H)
    (hs : ∀ (i : Nat) σ H, i < n → Pv i σ H → tb ⟨Pv (i + 1), rt, nx, Pv (i + 1)⟩ (σ.set k (some (.int (lo + (i : Int))))) H) (hd : ∀ σ H, Pv n σ H → nx σ H) : Loop2 lo n (gName k) tb ⟨nx, rt, bk, ct⟩ σ H :=
  for_range (lo := lo) (n := n) (D := ⟨nx, rt, bk, ct⟩) Pv h0 (fun i σ H hi p => hs i σ H hi p) hd
end
/-! dicts of three numbers, compared -/
section
variable {X : Cx}
def d3 (x y z : V) : List (Key × V) := [(.inr "read", x), (.inr "written", y), (.inr "changed", z)]
def rEq3 : R2 := fun p q H Q => ∃ (a b : Addr) (x y z x' y' z' : Int), p = .ref a ∧ q = .ref b ∧ H a = some (.dK (d3 (.int x) (.int y) (.int z))) ∧ H b = some (.dK (d3 (.int x') (.int y') (.int z'))) ∧ Q (.bl (decide (x = x') && (decide (y = y') && (decide (z = z') && true)))) H
def rNe3 : R2 := fun p q H Q => ∃ (a b : Addr) (x y z x' y' z' : Int), p = .ref a ∧ q = .ref b ∧ H a = some (.dK (d3 (.int x) (.int y) (.int z))) ∧ H b = some (.dK (d3 (.int x') (.int y') (.int z'))) ∧ Q (.bl (!(decide (x = x') && (decide (y = y') && (decide (z = z') && true))))) H
theorem hits_one {A : Around} {s : Shared} {kvs : List (Key × V)} {vb : List (Key × Value)} {k : Key} {i j : Int} {u : Value} {qs : List (Key × Value)} {b : Bool} (rb : KV kvs vb) (e : valV kvs k = some (.int j)) (ru : RelV (.int i) u) (h : PySem.W.KeqHits A s vb qs b) : PySem.W.KeqHits A s vb ((k, u) :: qs) (decide (i = j) && b) := by
  have rr : RelO (some (.int j)) (valueAt vb k) := by rw [← e]; exact rb.val k
  obtain ⟨y, hy, ry⟩ := rr.some_of
  obtain ⟨t, rfl⟩ := (show ∃ t, u = Value.int i t from ru)
  obtain ⟨t', rfl⟩ := (show ∃ t, y = Value.int j t from ry)
  have q := SeqAt.EqAt.int_int (A := A) (s := s) i t j t'
  have e2 : (i == j) = decide (i = j) := rfl
  rw [e2] at q
  exact .hit hy q h
theorem hits3 {A : Around} {s : Shared} {va vb : List (Key × Value)} {x y z x' y' z' : Int} (ra : KV (d3 (.int x) (.int y) (.int z)) va) (rb : KV (d3 (.int x') (.int y') (.int z')) vb) : PySem.W.KeqHits A s vb va (decide (x = x') && (decide (y = y') && (decide (z = z') && true))) := by
  unfold KV d3 at ra
  cases ra with
  | @cons p q ps qs h t =>
    cases t with
    | @cons p2 q2 ps2 qs2 h2 t2 =>
      cases t2 with
      | @cons p3 q3 ps3 qs3 h3 t3 =>
        cases t3
        obtain ⟨k1, u1⟩ := q
        obtain ⟨k2, u2⟩ := q2
        obtain ⟨k3, u3⟩ := q3
        obtain ⟨e1, r1⟩ := h
        obtain ⟨e2, r2⟩ := h2
        obtain ⟨e3, r3⟩ := h3
        cases (show (Sum.inr "read" : Key) = k1 from e1)
        cases (show (Sum.inr "written" : Key) = k2 from e2)
        cases (show (Sum.inr "changed" : Key) = k3 from e3)
        exact hits_one rb rfl r1 (hits_one rb rfl r2 (hits_one rb rfl r3 .nil))
theorem op_eq3 (hu : X.A.units < cLine) : OpR X (compareOp .Eq) rEq3 := by
  intro pins s σ H x y v u Q I rx ry h
  obtain ⟨a, b, x, y, z, x', y', z', rfl, rfl, ea, eb, q⟩ := h
  obtain rfl : v = Value.ref a := rx
  obtain rfl : u = Value.ref b := ry
  obtain ⟨_, ya, va, ra, da⟩ := (show ObjOk X.prog X.w H s.heap a (.dK _) from I.hok a _ ea)
  obtain ⟨_, yb, vb, rb, db⟩ := (show ObjOk X.prog X.w H s.heap b (.dK _) from I.hok b _ eb)
  have hl : va.length = vb.length := by rw [← ra.length, ← rb.length]; rfl
  exact PySem.W.keq_eq (knd := mixKind X.prog X.w) (r := decide (x = x') && (decide (y = y') && (decide (z = z') && true))) ya yb da db hu (fun _ => hits3 ra rb) (fin_bl I q (by simp [hl]))
theorem op_ne3 (hu : X.A.units < cLine) : OpR X (compareOp .NotEq) rNe3 := by
  intro pins s σ H x y v u Q I rx ry h
  obtain ⟨a, b, x, y, z, x', y', z', rfl, rfl, ea, eb, q⟩ := h
  obtain rfl : v = Value.ref a := rx
  obtain rfl : u = Value.ref b := ry
  obtain ⟨_, ya, va, ra, da⟩ := (show ObjOk X.prog X.w H s.heap a (.dK _) from I.hok a _ ea)
  obtain ⟨_, yb, vb, rb, db⟩ := (show ObjOk X.prog X.w H s.heap b (.dK _) from I.hok b _ eb)
  have hl : va.length = vb.length := by rw [← ra.length, ← rb.length]; rfl
  exact PySem.W.keq_ne (knd := mixKind X.prog X.w) (r := decide (x = x') && (decide (y = y') && (decide (z = z') && true))) ya yb da db hu (fun _ => hits3 ra rb) (fin_bl I q (by simp [hl]))
end
section
variable {H : Hp} {Q : VK} {a b : Addr} {x y z x' y' z' : Int}
theorem g_eq3 (ha : H a = some (.dK (d3 (.int x) (.int y) (.int z)))) (hb : H b = some (.dK (d3 (.int x') (.int y') (.int z')))) {r : Bool} (e : (decide (x = x') && (decide (y = y') && (decide (z = z') && true))) = r) (q : Q (.bl r) H) : rEq3 (.ref a) (.ref b) H Q := ⟨a, b, x, y, z, x', y', z', rfl, rfl, ha, hb, by rw [e]; exact q⟩
theorem g_ne3 (ha : H a = some (.dK (d3 (.int x) (.int y) (.int z)))) (hb : H b = some (.dK (d3 (.int x') (.int y') (.int z')))) {r : Bool} (e : (decide (x = x') && (decide (y = y') && (decide (z = z') && true))) = r) (q : Q (.bl (!r)) H) : rNe3 (.ref a) (.ref b) H Q := ⟨a, b, x, y, z, x', y', z', rfl, rfl, ha, hb, by rw [e]; exact q⟩
theorem same3 (h1 : x = x') (h2 : y = y') (h3 : z = z') : (decide (x = x') && (decide (y = y') && (decide (z = z') && true))) = true := by subst h1 h2 h3; simp
end
/-! {k: v, ..} of values that are made -/
def kDisp (p : Addr) (Q : VK) (ps : List (V × V)) (H2 : Hp) : Prop := H2 p = some (.dK []) ∧ ∃ kvs : List (Key × V), ps = kvs.map (fun kv => (kV kv.1, kv.2)) ∧ kvs.length ≤ 15 ∧ Q (.ref p) (upd H2 p (.dK (mergeK [] kvs)))
section
variable {σ : L2.St} {H0 H : Hp} {M : Addr → Prop} {l l' : List Ent} {Q : VK} {trs r : List (TE × TE)} {tk tv : TE} {QP : List (V × V) → Hp → Prop}
theorem g_disp (S : Sh H0 M H l) (q : ∀ p H', Sh H0 M H' ((p, .dK [], true) :: l) → tPairs trs σ H' (kDisp p Q)) : tDisp trs σ H Q := fun p hp => q p _ (S.new hp)
instance : Step (tPairs [] σ H QP) (QP [] H) := ⟨fun h => h⟩
instance : Step (tPairs ((tk, tv) :: r) σ H QP) (tk σ H fun x H1 => tv σ H1 fun y H2 => tPairs r σ H2 fun ps H3 => QP ((x, y) :: ps) H3) := ⟨fun h => h⟩
theorem g_kdisp {p : Addr} {kvs : List (Key × V)} {ps : List (V × V)} (S : Sh H0 M H l) (r : Rep l p (.dK []) (.dK kvs) l') (e : ps = kvs.map (fun kv => (kV kv.1, kv.2))) (hl : Nat.ble kvs.length 15 = true) (em : mergeK [] kvs = kvs) (q : ∀ H', Sh H0 M H' l' → Q (.ref p) H') : kDisp p Q ps H :=
  ⟨S.has _ r.mem, kvs, e, Nat.le_of_ble_eq_true hl, by rw [em]; exact q _ (S.put r)⟩
end
/-! list(d), list(t); is, is not between truths; all, max of a list -/
def rListT (K : PySem.W.Frag) : List V → Hp → VK → Prop := fun xs H Q => ∃ p ys, xs = [.ref p] ∧ (SqL K H p ys ∨ SqT K H p ys) ∧ ∀ l, H l = none → Q (.ref l) (upd H l (.lst ys))
def rIsB (neg : Bool) : R2 := fun x y H Q => ∃ a b, x = .bl a ∧ y = .bl b ∧ Q (.bl (if neg then !decide (a = b) else decide (a = b))) H
section
variable {X : Cx} {H0 H : Hp} {M : Addr → Prop} {l : List Ent} {Q : VK} {K : PySem.W.Frag} {a : Addr} {kvs : List (Key × V)} {ys : List V} {x y : Bool}
theorem cl_listT : CallR X (.type "list") (rListT X.K) := call_list_of
theorem g_listT (S : Sh H0 M H l) (h : SqL K H a ys ∨ SqT K H a ys) (q : ∀ p H', H p = none → Sh H0 M H' ((p, .lst ys, true) :: l) → Q (.ref p) H') : rListT K [.ref a] H Q := ⟨a, ys, rfl, h, fun p hp => q p _ hp (S.new hp)⟩
theorem g_listK (S : Sh H0 M H l) (h : H a = some (.dK kvs)) (q : ∀ p H', H p = none → Sh H0 M H' ((p, .lst (kvs.map fun kv => kV kv.1), true) :: l) → Q (.ref p) H') : rListK [.ref a] H Q :=
  ⟨a, kvs, rfl, .inl h, fun p hp => q p _ hp (S.new hp)⟩
theorem op_isB : OpR X (compareOp .Is) (rIsB false) := op_is_bl
theorem op_isnotB : OpR X (compareOp .IsNot) (rIsB true) := op_isnot_bl
instance : Step (rIsB false (.bl x) (.bl y) H Q) (Q (.bl (decide (x = y))) H) := ⟨fun q => ⟨x, y, rfl, rfl, q⟩⟩
instance : Step (rIsB true (.bl x) (.bl y) H Q) (Q (.bl (!decide (x = y))) H) := ⟨fun q => ⟨x, y, rfl, rfl, q⟩⟩
theorem cl_all (hc : X.calm = true) : CallR X (.builtin "all") (rAll X.K) := cr_all hc
theorem cl_maxL (hc : X.calm = true) : CallR X (.builtin "max") (rMax X.K) := cr_max hc
theorem g_all {bs : List Bool} (h : SqL K H a (bs.map V.bl)) (q : Q (.bl (bs.all id)) H) : rAll K [.ref a] H Q := ⟨a, bs, rfl, h, q⟩
theorem g_maxL {ns : List Int} (h : SqL K H a (ns.map V.int)) (h0 : 0 < ns.length) (q : ∀ m, m ∈ ns → (∀ y, y ∈ ns → y ≤ m) → Q (.int m) H) : rMax K [.ref a] H Q := ⟨a, ns, rfl, h, h0, q⟩
end
/-! rules within a comprehension: the facts' K by name -/
section
variable {X : Cx} {K : PySem.W.Frag} {e : Expr} {ta : TE} {f : Str} {pos : Pos}
theorem pe_fldK (he : PE X e ta) (hb : attributeBase e f X.env (eval e X.env) = eval e X.env) (hK : X.K = K := by rfl) : PE X (.Attribute e f pos) (tFld K ta f) := hK ▸ pe_fld he hb
theorem call_isiK (hK : X.K = K := by rfl) : CallR X (.builtin "isinstance") (rIsi K) := hK ▸ call_isi
theorem op_in_seqK (hK : X.K = K := by rfl) : OpR X (compareOp .In) (rIn K false) := hK ▸ op_in_seq
theorem ix_tupK (hK : X.K = K := by rfl) : IxR X (rIxT K) := hK ▸ ix_tup
theorem ix_listK (hK : X.K = K := by rfl) : IxR X (rIxL K) := hK ▸ ix_list
end
theorem cmp_eqK {X : Cx} {P : Program} {w : World} {K : PySem.W.Frag} {mg : Str → Option Value} {base : Heap} {k : Nat} {f C : Addr} {ps : List Str} {sp : Sp} (D : Dn P w K mg base k f ps sp) (B : Cmp K .Eq C f) (hr : Room k X.A) (h1 : X.prog = P := by rfl) (h2 : X.w = w := by rfl) (h3 : X.K = K := by rfl) (h4 : X.mg = mg := by rfl) (h5 : X.base = base := by rfl) :
    OpR X (compareOp .Eq) (rCmp K C sp E0) := by
  subst h1 h2 h3 h4 h5
  exact cmp_eq D B hr passL
theorem g_listKy {H0 H : Hp} {M : Addr → Prop} {l : List Ent} {Q : VK} {a : Addr} {kvs : List (Key × V)} (ys : List V) (S : Sh H0 M H l) (h : H a = some (.dK kvs)) (e : (kvs.map fun kv => kV kv.1) = ys) (q : ∀ p H', H p = none → Sh H0 M H' ((p, .lst ys, true) :: l) → Q (.ref p) H') : rListK [.ref a] H Q := by
  subst e
  exact g_listK S h q
end AF
/-! what the top leaves, with its written dicts, looked at once; written tuples of texts as truths -/
namespace AF
open PySem PySem.Spec PyProof.Rows L2 He
open PySem.W (Frag findIn isFn subIn selfFirst notFirst specialIn takesIn mroIn kitOne keepIn codeIn recIn nsIn)
abbrev SeenT : Type := Seen × List (Option (List (Option (Str × Int))))
def lookT (fs : Frag → List Bool) (ds : List DA) (ts : List Tab) (K : Frag) : SeenT := (look fs ds K, ts.map fun t => dicW K (t.1 K))
def lookTW (ds : List DA) (ts : List Tab) (w : World) : SeenT := (lookW ds, ts.map fun t => some (keysIn w.params t.2))
def TellsT (fs : Frag → List Bool) (ds : List DA) (ts : List Tab) (w : World) (K : Frag) : Prop := lookT fs ds ts K = lookTW ds ts w
def lookTG (n : Nat) (fs : Frag → List Bool) (ds : List DA) (ts : List Tab) (g : Addr → Option Obj) : SeenT := lookT fs ds ts (frG g (PySem.cStatics :: asD g n))
def hookT2 (n : Nat) (fs : Frag → List Bool) (ds : List DA) (ts : List Tab) : PySem.W.Hook where
  α := SeenT
  obs := fun s => lookTG n fs ds ts s.heap.get?
  val := fun w => lookTW ds ts w
  says := fun w h => ∃ K : Frag, K.In h ∧ TellsT fs ds ts w K
  of := fun _ _ e => ⟨_, frG_in, e⟩
  keeps := fun _ _ _ ⟨K, hK, c⟩ k => ⟨K, Frag.In.keeps hK k, c⟩
theorem lookTG_eq {n : Nat} {fs : Frag → List Bool} {ds : List DA} {ts : List Tab} {g : Addr → Option Obj} {s : Shared} (h : ∀ a, g a = s.heap.get? a) : lookTG n fs ds ts g = (hookT2 n fs ds ts).obs s := by
  have e : g = s.heap.get? := funext h
  rw [e]
  rfl
section
variable {fs : Frag → List Bool} {ds : List DA} {ts : List Tab} {w : World} {K : Frag}
theorem TellsT.d (c : TellsT fs ds ts w K) : Tells fs ds K := congrArg (fun z : SeenT => z.1) c
theorem TellsT.tab (c : TellsT fs ds ts w K) (i : Nat) {t : Tab} (h : ts[i]? = some t := by rfl) : ∃ es n, KDict K w (t.1 K) es n := by
  have e : ts.map (fun t => dicW K (t.1 K)) = ts.map fun t => some (keysIn w.params t.2) := congrArg (fun z : SeenT => z.2) c
  have e2 : (ts.map fun t => dicW K (t.1 K))[i]? = (ts.map fun t => some (keysIn w.params t.2))[i]? := by rw [e]
  rw [List.getElem?_map, List.getElem?_map, h] at e2
  exact dicW_ok (Option.some.inj e2)
end
/-! a written tuple of texts -/
def strsB : List Str → List Value → Bool
  | [], [] => true
  | x :: r, .str y _ :: q => decide (y = x) && strsB r q
  | _, _ => false
theorem strsB_ok : ∀ {ms : List Str} {us : List Value}, strsB ms us = true → Vals (ms.map V.str) us
  | [], [], _ => .nil
  | x :: r, .str y t :: q, h => by
    obtain ⟨h1, h2⟩ := ba (show (decide (y = x) && strsB r q) = true from h)
    obtain rfl : y = x := of_decide_eq_true h1
    exact .cons ⟨t, rfl⟩ (strsB_ok h2)
  | [], _ :: _, h => by simp [strsB] at h
  | _ :: _, [], h => by simp [strsB] at h
  | x :: r, u :: q, h => by
    cases u with
    | str y t =>
      obtain ⟨h1, h2⟩ := ba (show (decide (y = x) && strsB r q) = true from h)
      obtain rfl : y = x := of_decide_eq_true h1
      exact .cons ⟨t, rfl⟩ (strsB_ok h2)
    | _ => simp [strsB] at h
def ktB (K : Frag) (a : Addr) (ms : List Str) : Bool := match K.lookup a with
  | some ⟨.type c, _, .seq its _, _⟩ => decide (c = "tuple") && (strsB ms its.toList && Nat.ble its.size 1000)
  | _ => false
theorem ktB_ok {K : Frag} {a : Addr} {ms : List Str} (h : ktB K a ms = true) : AF.KT K a (ms.map V.str) := by
  unfold ktB at h
  cases q : K.lookup a with
  | none => rw [q] at h; cases h
  | some o =>
    obtain ⟨oc, od, dt, osl⟩ := o
    rw [q] at h
    cases oc with
    | type c =>
      cases dt with
      | seq its n =>
        obtain ⟨h1, h2⟩ := ba (show (decide (c = "tuple") && (strsB ms its.toList && Nat.ble its.size 1000)) = true from h)
        obtain ⟨h3, h4⟩ := ba h2
        obtain rfl : c = "tuple" := of_decide_eq_true h1
        exact ⟨_, its, n, q, rfl, rfl, line_of h4, strsB_ok h3⟩
      | _ => cases h
    | _ => cases dt <;> cases h
/-- what stands at a key is a written tuple of texts -/
def nowB (K : Frag) (d : Addr) (x : Str) (ms : List Str) : Bool := match nsIn K d x with
  | some (some (.ref t)) => ktB K t ms
  | _ => false
theorem nowB_ok {K : Frag} {d : Addr} {x : Str} {ms : List Str} (h : nowB K d x ms = true) : ∃ t : Addr, nsIn K d x = some (some (.ref t)) ∧ AF.KT K t (ms.map V.str) := by
  unfold nowB at h
  split at h
  · rename_i t e
    exact ⟨t, e, ktB_ok h⟩
  · cases h
theorem now_some {K : Frag} {d : Addr} {x : Str} {ms : List V} (h : ∃ t : Addr, nsIn K d x = some (some (.ref t)) ∧ AF.KT K t ms) : ∃ v, nsIn K d x = some (some v) := by
  obtain ⟨t, e, _⟩ := h
  exact ⟨_, e⟩
end AF
/-! what the top leaves, looked at in two parts -/
namespace AF
open PySem PySem.Spec PyProof.Rows L2 He
open PySem.W (Frag OpenRow)
open HandSHeadRun
def lookP (n : Nat) (f1 : Frag → List Bool) (d1 : List DA) (f2 : Frag → List Bool) (d2 : List DA) (g : Addr → Option Obj) : SeenT × SeenT := (lookTG n f1 d1 [] g, lookTG n f2 d2 [] g)
def hookP (n : Nat) (f1 : Frag → List Bool) (d1 : List DA) (f2 : Frag → List Bool) (d2 : List DA) : PySem.W.Hook where
  α := SeenT × SeenT
  obs := fun s => lookP n f1 d1 f2 d2 s.heap.get?
  val := fun w => (lookTW d1 [] w, lookTW d2 [] w)
  says := fun w h => ∃ K : Frag, K.In h ∧ (TellsT f1 d1 [] w K ∧ TellsT f2 d2 [] w K)
  of := fun _ _ e => ⟨_, frG_in, (Prod.mk.inj e).1, (Prod.mk.inj e).2⟩
  keeps := fun _ _ _ ⟨K, hK, c⟩ k => ⟨K, Frag.In.keeps hK k, c⟩
theorem lookP_eq {n : Nat} {f1 f2 : Frag → List Bool} {d1 d2 : List DA} {g : Addr → Option Obj} {s : Shared} (h : ∀ a, g a = s.heap.get? a) : lookP n f1 d1 f2 d2 g = (hookP n f1 d1 f2 d2).obs s := by
  have e : g = s.heap.get? := funext h
  rw [e]
  rfl
theorem map_two {α β γ δ : Type} {o : Option α} {f : α → β} {g : α → γ} {b : β} {c : γ} (k : α → δ) (e : β → γ → δ) (hk : ∀ a, k a = e (f a) (g a)) (h1 : o.map f = some b) (h2 : o.map g = some c) : o.map k = some (e b c) := by
  cases o with
  | none => cases h1
  | some a =>
    cases h1
    cases h2
    show some (k a) = _
    rw [hk]
theorem run_split {r : OpenRow} {q : Program} {n M : Nat} {f1 f2 : Frag → List Bool} {d1 d2 : List DA} {loose : List PySem.Str} {w : World}
    (h1 : RunEq r q (hookT2 n f1 d1 []) (fun s => lookTG n f1 d1 [] (getT s)) M loose w)
    (h2 : ∀ os : OsState, (endF (stepQ (denQ tabQ) r.prog w) M r.prog w os).map (fun s => lookTG n f2 d2 [] (getT s)) = some (lookTW d2 [] w)) :
    RunEq r q (hookP n f1 d1 f2 d2) (fun s => lookP n f1 d1 f2 d2 (getT s)) M loose w := fun os =>
  map_two _ (fun (x : Bool × _ × SeenT) (y : SeenT) => (x.1, x.2.1, (x.2.2, y))) (fun _ => rfl) (h1 os) (h2 os)
end AF
/-! what the top leaves: code objects stand, but are not looked into *-/
namespace AF
open PySem PySem.Spec PyProof.Rows L2 He
open PySem.W (Frag OpenRow)
open HandSHeadRun
def leafO (o : Obj) : Bool := match o.cls with
  | .type c => decide (c = "code")
  | _ => false
def refsP (o : Obj) : List Addr := match leafO o with
  | true => []
  | false => refsD o
def dd1 (seen : List Addr) : List Addr → List Addr
  | [] => []
  | a :: r => match seen.elem a with
    | true => dd1 seen r
    | false => a :: dd1 (a :: seen) r
def refsA (g : Addr → Option Obj) (a : Addr) : List Addr := match g a with
  | some o => refsP o
  | none => []
def asP (g : Addr → Option Obj) : Nat → List Addr → List Addr → List Addr
  | 0, seen, _ => seen
  | n + 1, seen, front => asP g n (seen ++ dd1 seen (front.flatMap (refsA g))) (dd1 seen (front.flatMap (refsA g)))
def lookTP (n : Nat) (fs : Frag → List Bool) (ds : List DA) (g : Addr → Option Obj) : SeenT := lookT fs ds [] (frG g (PySem.cStatics :: asP g n [mainGlobals] [mainGlobals]))
def lookQ (n : Nat) (f1 : Frag → List Bool) (d1 : List DA) (f2 : Frag → List Bool) (d2 : List DA) (g : Addr → Option Obj) : SeenT × SeenT := (lookTP n f1 d1 g, lookTP n f2 d2 g)
def hookQ1 (n : Nat) (fs : Frag → List Bool) (ds : List DA) : PySem.W.Hook where
  α := SeenT
  obs := fun s => lookTP n fs ds s.heap.get?
  val := fun w => lookTW ds [] w
  says := fun w h => ∃ K : Frag, K.In h ∧ TellsT fs ds [] w K
  of := fun _ _ e => ⟨_, frG_in, e⟩
  keeps := fun _ _ _ ⟨K, hK, c⟩ k => ⟨K, Frag.In.keeps hK k, c⟩
def hookQ (n : Nat) (f1 : Frag → List Bool) (d1 : List DA) (f2 : Frag → List Bool) (d2 : List DA) : PySem.W.Hook where
  α := SeenT × SeenT
  obs := fun s => lookQ n f1 d1 f2 d2 s.heap.get?
  val := fun w => (lookTW d1 [] w, lookTW d2 [] w)
  says := fun w h => ∃ K : Frag, K.In h ∧ (TellsT f1 d1 [] w K ∧ TellsT f2 d2 [] w K)
  of := fun _ _ e => ⟨_, frG_in, (Prod.mk.inj e).1, (Prod.mk.inj e).2⟩
  keeps := fun _ _ _ ⟨K, hK, c⟩ k => ⟨K, Frag.In.keeps hK k, c⟩
theorem lookQ_eq {n : Nat} {f1 f2 : Frag → List Bool} {d1 d2 : List DA} {g : Addr → Option Obj} {s : Shared} (h : ∀ a, g a = s.heap.get? a) : lookQ n f1 d1 f2 d2 g = (hookQ n f1 d1 f2 d2).obs s := by
  have e : g = s.heap.get? := funext h
  rw [e]
  rfl
theorem run_splitQ {r : OpenRow} {q : Program} {n M : Nat} {f1 f2 : Frag → List Bool} {d1 d2 : List DA} {loose : List PySem.Str} {w : World}
    (h1 : RunEq r q (hookQ1 n f1 d1) (fun s => lookTP n f1 d1 (getT s)) M loose w)
    (h2 : ∀ os : OsState, (endF (stepQ (denQ tabQ) r.prog w) M r.prog w os).map (fun s => lookTP n f2 d2 (getT s)) = some (lookTW d2 [] w)) :
    RunEq r q (hookQ n f1 d1 f2 d2) (fun s => lookQ n f1 d1 f2 d2 (getT s)) M loose w := fun os =>
  map_two _ (fun (x : Bool × _ × SeenT) (y : SeenT) => (x.1, x.2.1, (x.2.2, y))) (fun _ => rfl) (h1 os) (h2 os)
end AF
/-! defs that may show containers: what they promise where no repr is under way; the law's end for such a law -/
namespace AF
open PySem PySem.Spec PyProof.Rows L2 LamX
/-- a promise for places at which no repr runs -/
structure FnG (P : Program) (w : World) (K : PySem.W.Frag) (mg : Str → Option Value) (base : Heap) (CX : CXT) (k : Nat) (f : Addr) (fd : FuncData) (ps : List Str) (sp : Sp) : Prop where
  len : ∀ vs H Q E, sp vs H Q E → vs.length = ps.length
  go : ∀ (A : Around) (outer : List Env) (s : Shared) (H : Hp) (args : Args) (us : List Value) (vs : List V) (Q : VK) (E : XK), A.guards = some [] → Room k A → Env0 P w K mg base A outer s H →
    BindsTo s fd args (ps.zip us) → Vals vs us → sp vs H Q E → codeAny (model P w) A (.call (.ref f) args) (CR CX outer P w H s Q E) s
theorem FunD.okG {P : Program} {w : World} {K : PySem.W.Frag} {mg : Str → Option Value} {base : Heap} {x qual : Str} {params : Arguments} {body : List Stmt} {scope : Scope} {dvs : List V} {kws : List (Str × V)} {f : Addr} {fd : FuncData}
    {CX : CXT} {N ps : List Str} {k : Nat} {sp : Sp} (F : FunD K x qual params body scope dvs kws f fd) (S : FnScope N ps scope) (len : ∀ vs H Q E, sp vs H Q E → vs.length = ps.length)
    (hb : ∀ (cdv : Value) (A : Around) (outer : List Env) (s : Shared) (H : Hp) (vs : List V) (Q : VK) (E : XK), A.guards = some [] → Room k (A.deeper (envOfC qual scope s.heap.objs.size f cdv)) → sp vs H Q E →
      ∃ t, PSs (cxOf CX P w K mg base N qual scope f cdv A outer s H E) body t ∧ t { nx := fun _ H' => Q .non H', rt := Q } (L2.start N vs) H) : FnG P w K mg base CX (k + 1) f fd ps sp := by
  obtain ⟨oc, od, dV, kV, doc, pm, an, cdv, ct, osl, efd, lk, hcd, _, _⟩ := F.ex
  subst efd
  exact ⟨len, fun A outer s H args us vs Q E hg hr e0 hbd r hsp => run_ofS lk hcd S hr e0 hbd r (len _ _ _ _ hsp) fun hr' => hb cdv A outer s H vs Q E hg hr' hsp⟩
/-- a def's code -/
def cdOf (K : PySem.W.Frag) (f : Addr) : Value := match K.lookup f with
  | some ⟨_, _, .func fd, _⟩ => fd.code
  | _ => .none
/-- .. whose code is told -/
theorem FunD.okC {P : Program} {w : World} {K : PySem.W.Frag} {mg : Str → Option Value} {base : Heap} {x qual : Str} {params : Arguments} {body : List Stmt} {scope : Scope} {dvs : List V} {kws : List (Str × V)} {f : Addr} {fd : FuncData}
    {CX : CXT} {N ps : List Str} {k : Nat} {sp : Sp} (F : FunD K x qual params body scope dvs kws f fd) (S : FnScope N ps scope) (len : ∀ vs H Q E, sp vs H Q E → vs.length = ps.length)
    (hb : ∀ (cdv : Value) (A : Around) (outer : List Env) (s : Shared) (H : Hp) (vs : List V) (Q : VK) (E : XK), cdOf K f = cdv → A.guards = some [] → Room k (A.deeper (envOfC qual scope s.heap.objs.size f cdv)) → sp vs H Q E →
      ∃ t, PSs (cxOf CX P w K mg base N qual scope f cdv A outer s H E) body t ∧ t { nx := fun _ H' => Q .non H', rt := Q } (L2.start N vs) H) : FnG P w K mg base CX (k + 1) f fd ps sp := by
  obtain ⟨oc, od, dV, kV, doc, pm, an, cdv, ct, osl, efd, lk, hcd, _, _⟩ := F.ex
  subst efd
  have ec : cdOf K f = cdv := by unfold cdOf; rw [lk]
  exact ⟨len, fun A outer s H args us vs Q E hg hr e0 hbd r hsp => run_ofS lk hcd S hr e0 hbd r (len _ _ _ _ hsp) fun hr' => hb cdv A outer s H vs Q E ec hg hr' hsp⟩
/-- .. by name, all parameters given -/
structure DnG (P : Program) (w : World) (K : PySem.W.Frag) (mg : Str → Option Value) (base : Heap) (k : Nat) (a : Addr) (ps : List Str) (sp : Sp) : Prop where
  ex : ∃ fd, FnG P w K mg base (L2.CX P w) k a fd ps sp ∧ Binds K fd ps []
  kp : PySem.W.keepIn K (.ref a) = true
section
variable {X : Cx} {k : Nat} {f : Addr} {ps : List Str} {sp : Sp} {E : XK} {x : Str} {p pos : Pos} {e : Expr} {es : List Expr} {t : TA}
theorem pe_dng (D : DnG X.prog X.w X.K X.mg X.base k f ps sp) (hG : X.A.guards = some []) (hr : Room k X.A) (hg : Gl X x) (hm : X.mg x = some (.ref f)) (hx : Passes (L2.CX X.prog X.w) X E) (ha : PA X (e :: es) t) (hdb : (x == ("__debug__" : Str)) = false := by decide)
    (he : starEach (e :: es) X.env = (false, eval e X.env) :: starEach es X.env := by rfl) (hpl : (backTo pos (starEach es X.env)).any (·.1) = false := by rfl) : PE X (.Call (.Name x p) (e :: es) [] pos) (tCall sp [] E t) := by
  obtain ⟨fd, F, b⟩ := D.ex
  constructor
  intro pins s σ H Q I h
  refine wpAny_Call_Name_kw (ld_glob I hg hm ?_ hdb)
  refine PySem.W.callWith_K (h₀ := X.base) I.ok.mod.kin D.kp (thn (ha.run pos pins s σ H _ I h) ?_) he hpl
  rintro us s1 ⟨vs, H1, I1, r, q⟩
  refine ⟨I1.kIn, ?_⟩
  rw [List.append_nil] at q
  have hl : us.length = ps.length := r.length ▸ F.len _ _ _ _ q
  have bd := b s1 us I1.kIn (by rw [List.append_nil]; exact hl)
  rw [List.append_nil] at bd
  refine wpAny_call (codeAny_mono (F.go X.A X.stack s1 H1 ⟨us, []⟩ us vs Q E hG hr I1.env0 bd r q) ?_)
  rintro (er | fl) s' z
  · exact hx pins σ H1 s1 er s' I1 z
  · cases fl <;> first | exact I1.after z | exact False.elim z
end
/-! the law's end -/
/-- ahead of the law: the script, if it is not written, and the tables -/
def hpA (K : PySem.W.Frag) (a : Addr) (sc : HO) (ts : List Addr) : Hp := fun b => if b = a ∧ K.lookup a = none then some sc else if b ∈ ts then some (.tbl #[]) else none
theorem hpA_cases {K : PySem.W.Frag} {a b : Addr} {sc u : HO} {ts : List Addr} (h : hpA K a sc ts b = some u) : (b = a ∧ K.lookup a = none ∧ u = sc) ∨ (b ∈ ts ∧ u = .tbl #[]) := by
  unfold hpA at h
  split at h
  · rename_i z
    exact .inl ⟨z.1, z.2, (Option.some.inj h).symm⟩
  · split at h
    · rename_i z
      exact .inr ⟨z, (Option.some.inj h).symm⟩
    · cases h
theorem hpA_tab {K : PySem.W.Frag} {a b : Addr} {sc : HO} {ts : List Addr} (hb : b ∈ ts) (ha : a ∉ ts) : hpA K a sc ts b = some (.tbl #[]) := by
  unfold hpA
  rw [if_neg (show ¬ (b = a ∧ K.lookup a = none) from fun z => ha (z.1 ▸ hb)), if_pos hb]
theorem hpA_none {K : PySem.W.Frag} {a b : Addr} {sc : HO} {ts : List Addr} (h : ∀ u, hpA K a sc ts b ≠ some u) : hpA K a sc ts b = none := by
  cases e : hpA K a sc ts b with
  | none => rfl
  | some u => exact absurd e (h u)
abbrev oScr (vs : List Value) : Obj := { cls := .type "list", data := .seq vs.toArray }
abbrev oTab : Obj := { cls := .none, data := .fields #[] }
/-- the script as it stands ahead of the law: nothing may change it -/
def SqF (K : PySem.W.Frag) (H : Hp) (a : Addr) (xs : List V) : Prop := (∃ o, H a = some (.frz o (.lst xs))) ∨
  ∃ (o : Obj) (its : Array Value) (n : Nat), K.lookup a = some o ∧ o.cls = .type "list" ∧ o.dict = none ∧ o.data = .seq its n ∧ its.size ≤ sizeLine ∧ Vals xs its.toList
theorem SqF.sq {K : PySem.W.Frag} {H : Hp} {a : Addr} {xs : List V} (h : SqF K H a xs) : SqL K H a xs := h.elim (fun z => .inl (.inr z)) .inr
theorem law_callG {P : Program} {w : World} {K : PySem.W.Frag} {mg mb : Str → Option Value} {CX : CXT} {k : Nat} {fa a : Addr} {cs : List (Addr × Addr)} {fd : FuncData} {x : Str} {sp : Sp} {s₁ : Shared} {vs : List Value} {ns : List Int}
    (KX : K.In s₁.heap) (hns : s₁.heap.Ns mainGlobals mg) (hb : s₁.heap.Ns builtinsNs mb) (hbb : ∀ y : Str, y ≠ "__name__" → mb y = bootBuiltins y) (hlim : s₁.heap.NoLimit) (hg : s₁.gens = #[])
    (hT : ∀ p ∈ cs, s₁.heap.get? p.2 = some oTab) (nT : ∀ p ∈ cs, K.lookup p.2 = none) (C : ∀ p ∈ cs, PySem.W.CodeHd s₁.heap p.1 p.2)
    (hbm : ∃ (bm : Addr) (ob : Obj), mg "__builtins__" = some (.ref bm) ∧ bm ≠ builtinsNs ∧ s₁.heap.get? bm = some ob ∧ ob.cls = .type "module" ∧ ob.dict = some builtinsNs ∧ ob.data = .plain)
    (ha : s₁.heap.get? a = some (oScr vs)) (hi : IntsAre vs ns) (hl : ns.length ≤ sizeLine) (hr : Room k callerA)
    (F : ∀ base : Heap, K.In base → base.Ns mainGlobals mg → (∀ p ∈ cs, TabB base mg p.1 p.2) → FnG P w K mg base CX k fa fd [x] sp) (hbind : ∀ (s : Shared) (u : Value), BindsTo s fd ⟨[u], []⟩ [(x, u)])
    (hsp : ∀ H : Hp, (∀ p ∈ cs, H p.2 = some (.tbl #[])) → SqF K H a (ns.map V.int) → sp [.ref a] H (fun v _ => v = .bl true) fun _ _ _ => False)
    (hCX : ∀ H e s', CX [] H s₁ (fun _ _ _ => False) e s' → False) :
    codeAny (model P w) callerA (.call (.ref fa) ⟨[.ref a], []⟩) (fun r s' => r = .ok (.ret (.bool true)) ∧ OldK s₁.heap s'.heap ∧ s'.os = s₁.os ∧ AllBare s'.gens) s₁ := by
  have rv := vals_ints hi
  have elen : vs.length = ns.length := hi.length
  generalize ets : cs.map (·.2) = ts
  have tb : ∀ b, b ∈ ts → ∃ p ∈ cs, p.2 = b := fun b z => by rw [← ets] at z; exact List.mem_map.mp z
  have bt : ∀ p, p ∈ cs → p.2 ∈ ts := fun p z => by rw [← ets]; exact List.mem_map.mpr ⟨p, z, rfl⟩
  have at' : ∀ b, b ∈ ts → s₁.heap.get? b = some oTab := fun b z => by
    obtain ⟨p, hp, rfl⟩ := tb b z
    exact hT p hp
  have na : a ∉ ts := fun z => by
    have y := (at' a z).symm.trans ha
    have y2 : Data.fields #[] = Data.seq vs.toArray _ := congrArg Obj.data (Option.some.inj y)
    cases y2
  let sc : HO := .frz (oScr vs) (.lst (ns.map V.int))
  let H := hpA K a sc ts
  -- what is neither the script nor a table is not told
  have free : ∀ {b : Addr} {o : Obj}, s₁.heap.get? b = some o → o ≠ oScr vs → o ≠ oTab → H b = none := fun {b o} e n1 n2 => hpA_none fun u z => by
    rcases hpA_cases z with ⟨rfl, _, _⟩ | ⟨m, _⟩
    · exact n1 (Option.some.inj (e.symm.trans ha))
    · exact n2 (Option.some.inj (e.symm.trans (at' b m)))
  have noscr : ∀ {o : Obj}, (∀ l n, o.data ≠ .seq l n) → o ≠ oScr vs := fun n z => n _ _ (congrArg Obj.data z)
  have notab : ∀ {o : Obj}, o.data ≠ .fields #[] → o ≠ oTab := fun n z => n (congrArg Obj.data z)
  have hid : ∀ {b : Addr} {o : Obj}, s₁.heap.get? b = some o → o ≠ oScr vs → o ≠ oTab → (hidT s₁.heap H).get? b = some o := fun e n1 n2 => hidT_get e (free e n1 n2)
  have keepNs : ∀ {b : Addr} {m : Str → Option Value}, s₁.heap.Ns b m → (hidT s₁.heap H).Ns b m := fun {b m} z => by
    obtain ⟨o, es, ep, e, d, r⟩ := z
    refine ⟨o, es, ep, hid e (noscr fun l n y => ?_) (notab fun y => ?_), d, r⟩ <;> (rw [d] at y; cases y)
  have bIn : K.In (hidT s₁.heap H) := fun b o e => hidT_get (KX b o e) (hpA_none fun u z => by
    rcases hpA_cases z with ⟨rfl, n, _⟩ | ⟨m, _⟩
    · rw [n] at e; cases e
    · obtain ⟨p, hp, rfl⟩ := tb b m
      rw [nT p hp] at e; cases e)
  obtain ⟨mc, lim1, lim2⟩ := hlim
  have bMod : L2.Mod K mg (hidT s₁.heap H) := ⟨bIn, keepNs hns, ⟨mb, keepNs hb, hbb⟩, ⟨mc, keepNs lim1, lim2⟩⟩
  have hok : HOk P w H s₁.heap := fun b u z => by
    rcases hpA_cases z with ⟨rfl, _, rfl⟩ | ⟨m, rfl⟩
    · exact ⟨ha, by rw [List.length_map]; exact hl, vs, _, rv, ha⟩
    · exact at' b m
  have sq : SqF K H a (ns.map V.int) := by
    cases lk : K.lookup a with
    | none => exact .inl (⟨oScr vs, by show hpA K a sc ts a = _; unfold hpA; rw [if_pos ⟨rfl, lk⟩]⟩)
    | some o =>
      have eo : o = oScr vs := Option.some.inj ((KX a o lk).symm.trans ha)
      subst eo
      exact .inr ⟨_, vs.toArray, _, lk, rfl, rfl, rfl, by rw [List.size_toArray, elen]; exact hl, by simpa using rv⟩
  have tabs : ∀ p ∈ cs, TabB (hidT s₁.heap H) mg p.1 p.2 := fun p hp => by
    have tp := hT p hp
    constructor
    · obtain ⟨o, us, file, tf, flags, tg, inF, text, tt, e1, r1, r2, r3, rest⟩ := C p hp
      refine ⟨o, us, file, tf, flags, tg, inF, text, tt, hid e1 (noscr fun l n y => ?_) (notab fun y => ?_), r1, r2, r3, rest⟩
      · rw [r2] at y; cases y
      · rw [r2] at y; cases y
        simp at r3
    · obtain ⟨bm, ob, b1, b2, b3, b4, b5, b6⟩ := hbm
      refine ⟨bm, ob, b1, b2, fun y => ?_, fun y => ?_, hid b3 (noscr fun l n y => ?_) (notab fun y => ?_), b4, b5, b6⟩
      · obtain ⟨o, es, ep, e, d, _⟩ := hns
        subst y
        rw [e] at b3; cases b3
        rw [d] at b6; cases b6
      · subst y
        rw [tp] at b3; cases b3; cases b6
      all_goals (rw [b6] at y; cases y)
    · intro y
      obtain ⟨o, es, ep, e, d, _⟩ := hns
      rw [y, tp] at e; cases e; cases d
  have env : Env0 P w K mg (hidT s₁.heap H) callerA [] s₁ H := ⟨rfl, bMod, fun _ _ => of_hidT, Nat.le_of_eq (hidT_size _ _), trivial, fun _ z => (nomatch (show _ ∈ ([] : List Addr) from z)), hok, .of_eq hg⟩
  refine codeAny_mono ((F _ bIn (keepNs hns) tabs).go callerA [] s₁ H ⟨[.ref a], []⟩ [.ref a] [.ref a] _ _ rfl hr env (hbind s₁ (.ref a)) (.cons rfl .nil) (hsp H (fun p hp => hpA_tab (bt p hp) na) sq)) ?_
  rintro (er | fl) s' z
  · exact (hCX H er s' z).elim
  cases fl with
  | ret u =>
    obtain ⟨v, H', eos, bare, un, ok', ru, ev⟩ := z
    have ev : v = .bl true := ev
    subst ev
    have eu : u = Value.bool true := ru
    subst eu
    have kept : ∀ b o, b ∉ ts → s₁.heap.get? b = some o → s'.heap.get? b = some o := fun b o nb e => by
      cases hb : H b with
      | none => exact un.keep b o e hb (fun y => nomatch (show b ∈ ([] : List Addr) from y)) (fun y => nomatch y)
      | some c =>
        rcases hpA_cases hb with ⟨_, _, rfl⟩ | ⟨m, _⟩
        · have k1 := (ok' b _ (un.frzs b _ _ hb)).1
          have k0 := (hok b _ hb).1
          have eo := Option.some.inj (k0.symm.trans e)
          rw [← eo]
          exact k1
        · exact absurd m nb
    have more : ∀ b, b ∈ ts → ∃ m : Array Value, s'.heap.get? b = some { cls := .none, data := .fields m } := fun b m => by
      obtain ⟨q, y⟩ := un.tbls b #[] (hpA_tab m na)
      exact ⟨_, ok' b _ y⟩
    refine ⟨rfl, ⟨fun b o e => ?_, fun b o e => ?_⟩, eos, bare⟩
    · by_cases m : b ∈ ts
      · obtain ⟨q, y⟩ := more b m
        have eo := Option.some.inj (e.symm.trans (at' b m))
        subst eo
        obtain ⟨p, hp, rfl⟩ := tb b m
        exact .inr (.inl ⟨((C p hp).tab (hT p hp)).isCodeTable, rfl, #[], q, rfl, by rw [Array.empty_append]; exact y⟩)
      · exact .inl (kept b o m e)
    · by_cases m : b ∈ ts
      · obtain ⟨q, y⟩ := more b m
        exact ⟨_, y⟩
      · exact ⟨o, kept b o m e⟩
  | next => exact False.elim z
  | brk => exact False.elim z
  | cont => exact False.elim z
/-- what the head's heap h tells of the law -/
def LawAtG (l : PySem.W.OpenLaw) (w : World) (K : PySem.W.Frag) (CX : CXT) (k n : Nat) (x : Str) (mg : Str → Option Value) (fa : Addr) (h : Heap) : Prop :=
  ∃ (fd : FuncData) (cs : List (Addr × Addr)) (sp : Sp), (∀ p ∈ cs, h.get? p.2 = some oTab) ∧ (∀ p ∈ cs, K.lookup p.2 = none) ∧ (∀ p ∈ cs, PySem.W.CodeHd h p.1 p.2) ∧ (∀ (s : Shared) (u : Value), BindsTo s fd ⟨[u], []⟩ [(x, u)]) ∧
    (∀ (H : Hp) (a : Addr) (ns : List Int), ns.length ≤ n → (∀ z ∈ ns, Builtin.Int.intBits z ≤ 1048576) → (∀ p ∈ cs, H p.2 = some (.tbl #[])) → SqF K H a (ns.map V.int) → sp [.ref a] H (fun v _ => v = .bl true) fun _ _ _ => False) ∧
    ∀ base : Heap, K.In base → base.Ns mainGlobals mg → (∀ p ∈ cs, TabB base mg p.1 p.2) → FnG l.prog w K mg base CX k fa fd [x] sp
theorem walk_ofG {l : PySem.W.OpenLaw} {n k : Nat} {q : Program} {loose : List Str} {XP : (Str → Option Value) → Heap → Prop} {YP : World → Heap → Prop} {d : DefRec} {CX : World → CXT} {x : Str}
    (hn : l.most = some n) (hn2 : n ≤ sizeLine) (hdf : d.params.defaults = []) (hr : Room k callerA)
    (F : ∀ (w : World) (mg : Str → Option Value) (fa : Addr) (h : Heap), YP w h → h.Ns mainGlobals mg → mg d.name = some (.ref fa) → ∃ K : PySem.W.Frag, K.In h ∧ LawAtG l w K (CX w) k n x mg fa h)
    (hCX : ∀ (w : World) (H : Hp) (s : Shared) (e : Value) (s' : Shared), CX w [] H s (fun _ _ _ => False) e s' → False) :
    PySem.W.WalkO q loose XP YP l.row.toRowW d [] (fun f vs => PySem.call f vs) := by
  refine Att.attach_callB hn hdf ?_
  intro w s₀ s₁ mg mb fa o pm cd doc a vs ns G Y _ _ _ hmg hobj hints hlen hbits hg
  obtain ⟨K, KX, fd, cs, sp, hT, nT, C, hb, hsp, hF⟩ := F w mg fa _ Y G.T.g hmg
  exact law_callG KX G.T.g G.T.b G.T.builtins G.T.nolimit hg hT nT C G.T.bmain hobj hints (Nat.le_trans hlen hn2) hr hF hb (fun H t z => hsp H a ns hlen hbits t z) fun H e s' z => hCX w H s₁ e s' z
end AF
/-! values that are data, shown by repr; a caught error's fields and classes; several clauses that name the error -/
namespace AF
open PySem PySem.Spec PyProof.Rows L2
mutual
/-- a value by its data -/
inductive Pv (H : Hp) : V → PyData → Prop
  | non : Pv H .non .none
  | bl (b : Bool) : Pv H (.bl b) (.bool b)
  | int (i : Int) : Pv H (.int i) (.int i)
  | str (x : Str) : Pv H (.str x) (.str x)
  | lst {a : Addr} {xs : List V} {ds : List PyData} (e : H a = some (.lst xs)) (r : PvAll H xs ds) : Pv H (.ref a) (.list ds)
  | tup {a : Addr} {xs : List V} {ds : List PyData} (e : H a = some (.tup xs)) (r : PvAll H xs ds) : Pv H (.ref a) (.tuple ds)
  | d0 {a : Addr} (e : H a = some (.dK [])) : Pv H (.ref a) (.dict [])
  | d1 {a : Addr} {i j : Int} (e : H a = some (.dK [(.inl i, .int j)])) : Pv H (.ref a) (.dict [(.int i, .int j)])
inductive PvAll (H : Hp) : List V → List PyData → Prop
  | nil : PvAll H [] []
  | cons {v : V} {vs : List V} {d : PyData} {ds : List PyData} (h : Pv H v d) (r : PvAll H vs ds) : PvAll H (v :: vs) (d :: ds)
end
mutual
theorem Pv.ch {H H' : Hp} (c : Ch [] H H') : ∀ (d : PyData) (v : V), Pv H v d → Pv H' v d
  | .none, _, h => by cases h; exact .non
  | .bool b, _, h => by cases h; exact .bl b
  | .int i, _, h => by cases h; exact .int i
  | .str x, _, h => by cases h; exact .str x
  | .list ds, _, h => by cases h with | lst e r => exact .lst (c _ _ e List.not_mem_nil) (PvAll.ch c ds _ r)
  | .tuple ds, _, h => by cases h with | tup e r => exact .tup (c _ _ e List.not_mem_nil) (PvAll.ch c ds _ r)
  | .dict ps, _, h => by cases h with
    | d0 e => exact .d0 (c _ _ e List.not_mem_nil)
    | d1 e => exact .d1 (c _ _ e List.not_mem_nil)
theorem PvAll.ch {H H' : Hp} (c : Ch [] H H') : ∀ (ds : List PyData) (vs : List V), PvAll H vs ds → PvAll H' vs ds
  | [], _, h => by cases h; exact .nil
  | d :: ds, _, h => by cases h with | cons k r => exact .cons (Pv.ch c d _ k) (PvAll.ch c ds _ r)
end
mutual
/-- without dicts -/
def noDicB : PyData → Bool
  | .list ds => noDicsB ds
  | .tuple ds => noDicsB ds
  | .dict _ => false
  | _ => true
def noDicsB : List PyData → Bool
  | [] => true
  | d :: ds => noDicB d && noDicsB ds
end
mutual
theorem Pv.dp {K : PySem.W.Frag} {H : Hp} : ∀ (d : PyData) (v : V), Pv H v d → noDicB d = true → Dp K H v d
  | .none, _, h, _ => by cases h; exact .non
  | .bool b, _, h, _ => by cases h; exact .bl b
  | .int i, _, h, _ => by cases h; exact .int i
  | .str x, _, h, _ => by cases h; exact .str x
  | .list ds, _, h, n => by cases h with | lst e r => exact .lst (SqL.of e) (PvAll.dp ds _ r n)
  | .tuple ds, _, h, n => by cases h with | tup e r => exact .tup (SqT.of e) (PvAll.dp ds _ r n)
  | .dict ps, _, _, n => by cases n
theorem PvAll.dp {K : PySem.W.Frag} {H : Hp} : ∀ (ds : List PyData) (vs : List V), PvAll H vs ds → noDicsB ds = true → DpAll K H vs ds
  | [], _, h, _ => by cases h; exact .nil
  | d :: ds, _, h, n => by
    cases h with
    | cons k r =>
      obtain ⟨n1, n2⟩ := Bool.and_eq_true_iff.mp n
      exact .cons (Pv.dp d _ k n1) (PvAll.dp ds _ r n2)
end
mutual
theorem noDic_has : ∀ d : PyData, noDicB d = true → d.hasDict = false
  | .none, _ => rfl
  | .bool _, _ => rfl
  | .int _, _ => rfl
  | .str _, _ => rfl
  | .list ds, h => noDics_has ds h
  | .tuple ds, h => noDics_has ds h
  | .dict _, h => by cases h
theorem noDics_has : ∀ ds : List PyData, noDicsB ds = true → PyData.hasDictAll ds = false
  | [], _ => rfl
  | d :: ds, h => by
    obtain ⟨h1, h2⟩ := Bool.and_eq_true_iff.mp h
    simp only [PyData.hasDictAll, noDic_has d h1, noDics_has ds h2, Bool.or_false]
end
theorem vals1' {v : V} {us : List Value} (r : Vals [v] us) : ∃ u, us = [u] ∧ RelV v u := by
  cases r with
  | cons h t => cases t; exact ⟨_, rfl, h⟩
/-- the type's name -/
def tyN : PyData → String
  | .none => "NoneType"
  | .bool _ => "bool"
  | .int _ => "int"
  | .str _ => "str"
  | .list _ => "list"
  | .tuple _ => "tuple"
  | .dict _ => "dict"
theorem Pv.ty {K : PySem.W.Frag} {H : Hp} {v : V} {d : PyData} (h : Pv H v d) : TyX K H v (.type (tyN d)) := by
  cases h with
  | non => exact .base .non
  | bl b => exact .base (.bl b)
  | int i => exact .base (.int i)
  | str x => exact .base (.str x)
  | lst e r => exact .base (.lst e)
  | tup e r => exact .base (.tup e)
  | d0 e => exact .base (.dK e)
  | d1 e => exact .base (.dK e)
/-- isinstance(x, T), T a built-in type -/
theorem g_isP {K : PySem.W.Frag} {H : Hp} {Q : VK} {v : V} {d : PyData} {T : String} {b : Bool} (h : Pv H v d) (e : kitB (tyN d) T = some b) (q : Q (.bl b) H) : rIsi K [v, .ty T] H Q := g_isi (.ty T) h.ty (kit_ty e) q
def topD : PyData → Bool
  | .dict _ => true
  | _ => false
section
variable {X : Cx} {pins : List (Addr × Obj)} {σ : L2.St} {H : Hp} {s : Shared}
def encK : Key → PyData
  | .inl i => .int i
  | .inr x => .str x
theorem Pv.reads (I : Inv X pins σ H s) {v : V} {u : Value} {d : PyData} (h : Pv H v d) (r : RelV v u) (n : noDicB d = true ∨ topD d = true) : ∃ as, Reads s.heap u d as ∧ (topD d = true → sysModules ∉ as) := by
  rcases n with n | n
  · obtain ⟨as, z⟩ := Dp.reads I d v u (h.dp (K := X.K) d v n) r
    exact ⟨as, z, fun y => by cases d <;> first | (cases y; done) | (cases n; done)⟩
  · have key : ∀ (k : Key) (kv : Value), (mixKind X.prog X.w).is k kv = true → Reads s.heap kv (encK k) [] := fun k kv e => by
      rcases keyIs_shape (show keyIs k kv = true from e) with ⟨i, t, rfl, rfl⟩ | ⟨x, t, rfl, rfl⟩
      · exact .int i t
      · exact .str x t
    have fin : ∀ {a : Addr}, (a == sysModules) = false → sysModules ∉ [a] := fun sm z => by
      rw [List.mem_singleton] at z
      rw [← z] at sm
      simp at sm
    cases h with
    | d0 e =>
      rename_i a
      cases (show u = Value.ref a from r)
      obtain ⟨_, sm, vs, kv, dd⟩ := (show ObjOk X.prog X.w H s.heap a (.dK []) from I.hok a _ e)
      cases (show Paired _ [] vs from kv)
      exact ⟨_, PyProof.V.reads_dictOf (enc := encK) key dd .nil, fun _ => fin sm⟩
    | d1 e =>
      rename_i a i j
      cases (show u = Value.ref a from r)
      obtain ⟨_, sm, vs, kv, dd⟩ := (show ObjOk X.prog X.w H s.heap a (.dK _) from I.hok a _ e)
      cases (show Paired _ _ vs from kv) with
      | @cons p q ps qs h1 h2 =>
        cases h2
        obtain ⟨k, y⟩ := q
        obtain ⟨e1, e2⟩ := h1
        cases (show (Sum.inl i : Key) = k from e1)
        obtain ⟨t, rfl⟩ := (show ∃ t, y = Value.int j t from e2)
        exact ⟨_, PyProof.V.reads_dictOf (enc := encK) (D := [(.int i, .int j)]) key dd (PyProof.V.PairsRead.cons (.int j t) .nil), fun _ => fin sm⟩
    | _ => cases n
end
/-- what repr may show at once -/
def showB (d : PyData) : Bool := d.showable && (Nat.ble d.depth 60 && (Nat.ble d.shown.length 1000 && (noDicB d || topD d)))
/-- repr of a value -/
inductive RepO (H : Hp) : V → Str → Prop
  | non : RepO H .non "None"
  | bl (b : Bool) : RepO H (.bl b) (if b then "True" else "False")
  | int {i : Int} (h : i.natAbs.log2 < 1920) : RepO H (.int i) (toString i)
  | str {x : Str} (h : Nat.ble (reprText x).length 1000 = true) : RepO H (.str x) (reprText x)
  | box {a : Addr} {d : PyData} (h : Pv H (.ref a) d) (s : showB d = true) : RepO H (.ref a) d.shown
theorem RepO.ch {H H' : Hp} {v : V} {z : Str} (h : RepO H v z) (c : Ch [] H H') : RepO H' v z := by
  cases h with
  | non => exact .non
  | bl b => exact .bl b
  | int h => exact .int h
  | str h => exact .str h
  | box h s => exact .box (h.ch c) s
theorem RepO.of {H : Hp} {v : V} {d : PyData} (h : Pv H v d) (s : showB d = true) : RepO H v d.shown := by
  obtain ⟨s1, s2⟩ := Bool.and_eq_true_iff.mp s
  obtain ⟨s2, s3⟩ := Bool.and_eq_true_iff.mp s2
  obtain ⟨s3, s4⟩ := Bool.and_eq_true_iff.mp s3
  cases h with
  | non => simp only [PyData.shown]; exact .non
  | bl b => simp only [PyData.shown]; exact .bl b
  | int i => simp only [PyData.shown]; exact .int (of_decide_eq_true s1)
  | str x => simp only [PyData.shown] at s3 ⊢; exact .str s3
  | lst e r => exact .box (.lst e r) s
  | tup e r => exact .box (.tup e r) s
  | d0 e => exact .box (.d0 e) s
  | d1 e => exact .box (.d1 e) s
def rRep : List V → Hp → VK → Prop := fun xs H Q => ∃ v z, xs = [v] ∧ RepO H v z ∧ Q (.str z) H
theorem cl_rep {X : Cx} (hG : X.A.guards = some []) (hu : X.A.units + 100 < cLine) : CallR X (.builtin "repr") rRep := by
  intro pins s σ H xs us Q I r h
  obtain ⟨v, z, rfl, hz, q⟩ := h
  obtain ⟨u, rfl, ru⟩ := vals1' r
  cases hz with
  | non => cases ru; exact PySem.P.repr_of_none ⟨.str _, H, I.tok _, ⟨_, rfl⟩, q⟩
  | bl b => cases ru; exact PySem.P.repr_of_bool ⟨.str _, H, I.tok _, ⟨_, rfl⟩, q⟩
  | int hi =>
    obtain ⟨t, rfl⟩ := ru
    exact PySem.P.repr_of_int hi ⟨.str _, H, I.tok _, ⟨_, rfl⟩, q⟩
  | str hx =>
    obtain ⟨t, rfl⟩ := ru
    exact PySem.P.repr_of_str ⟨.str _, H, I.tok _, ⟨_, rfl⟩, q⟩ (line_of hx)
  | @box a d hp sh =>
    obtain ⟨s1, s2⟩ := Bool.and_eq_true_iff.mp sh
    obtain ⟨s2, s3⟩ := Bool.and_eq_true_iff.mp s2
    obtain ⟨s3, s4⟩ := Bool.and_eq_true_iff.mp s3
    have s2 := Nat.le_of_ble_eq_true s2
    have nd : noDicB d = true ∨ topD d = true := Bool.or_eq_true_iff.mp s4
    obtain ⟨as, rd, sm⟩ := hp.reads I ru nd
    cases (show u = Value.ref a from ru)
    have hd : d.hasDict = true → topD d = true := fun y => nd.elim (fun n => absurd y (by rw [noDic_has d n]; simp)) id
    exact repr_of_reads' rd s1 (fun y => sm (hd y)) hG (by omega) (fun _ _ e => e) (fun h' t tk k => ⟨.str _, H, I.kept k, ⟨_, rfl⟩, q⟩) (line_of s3)
end AF
/-! isinstance of a caught error that has a dict; several clauses that name the error -/
namespace AF
open PySem PySem.Spec PyProof.Rows L2
section
open PySem.W (Frag InstAt Looks findIn specialIn takesIn clsIn hasDictIn looks_findIn looks_find looks_subIn any_some KitX class_get)
variable {prog : Program} {w : World} {A : Around} {E : Value → Shared → Prop} {s : Shared} {K : Frag} {x D : Addr} {ox : Obj} {od : Option Obj}
/-- a data descriptor of the class is asked ahead of the own dict -/
theorem find_data {nm : Str} {f g : Value} (hc : (clsIn K D).isSome = true) (h1 : findIn K (.ref D) nm = some (some f)) (h2 : specialIn K f "__get__" = some (some g)) (h3 : takesIn K f = some true) : PySem.W.findObj K D od nm = some (.bind g f) := by
  cases e : clsIn K D with
  | none => rw [e] at hc; cases hc
  | some cd =>
    unfold PySem.W.findObj
    simp only [e, h1, h2, h3, Option.bind_some]
open PySem.Calls in
theorem err_class {Q : Option Value → Shared → Prop} (C : ExcC K D) (KX : K.In s.heap) (I : InstAt s.heap x ox D od) (q : Q (some (.ref D)) { s with toks := s.toks + 1 }) : wpAny (model prog w) A (getAttr? (.ref x) "__class__") Q E s := by
  have isC : (clsIn K D).isSome = true := by
    obtain ⟨cd, e, _⟩ := any_some C.hd
    rw [e]; rfl
  have found := find_data (od := od) isC C.ha C.hn C.ht
  obtain ⟨hh, gs, dr, tk, os⟩ := s
  have lt := I.type (M := model prog w)
  have lg := looks_findIn (M := model prog w) KX C.hg
  have lk := looks_findIn (M := model prog w) KX C.hk
  have lf := looks_find (M := model prog w) KX I found
  have lb : Looks (model prog w) hh (isInstance (.ref x) (.type "BaseException")) true := lt.andThen (looks_subIn KX C.hs)
  have b0 : (Value.builtin "BaseException.__getattribute__" == Value.builtin "object.__getattribute__") = false := by decide +kernel
  unfold getAttr? getAttrBy? getAttrBy
  refine wpAny_bind (wpAny_mkText (wpAny_bind (wpAny_attempt (wpAny_holding (wpAny_bind (lt.at (wpAny_bind (lg.at ?_))))))))
  have b1 : ¬ (onTheHeap (Value.ref D) && Value.builtin "BaseException.__getattribute__" == Value.builtin "object.__getattribute__") = true := by rw [b0, Bool.and_false]; exact Bool.false_ne_true
  dsimp only
  rw [if_neg b1]
  unfold getAttrByItsOwn hookBefore
  refine wpAny_bind ?_
  rw [if_pos (show onTheHeap (Value.ref D) = true from rfl)]
  refine lk.at (wpAny_bind (wpAny_attempt (wpAny_holding ?_)))
  unfold callGetattribute
  rw [if_neg (show ¬ (false && onTheHeap (Value.builtin "BaseException.__getattribute__")) = true from Bool.false_ne_true)]
  unfold boundAndCalled
  rw [PySem.F.excAttr_ValueError.ga.bind (.ref x)]
  refine wpAny_bind (wpAny_pure (wpAny_call (codeAny_call_builtin PySem.F.excAttr_ValueError.ga.plain PySem.F.entry_bexc_ga ?_)))
  refine @PySem.W.check_slot (model prog w) _ _ ⟨hh, gs, dr, tk + 1, os⟩ "BaseException.__getattribute__" "BaseException" "__getattribute__" (.ref x) [.str "__class__" tk] [] _ (by decide +kernel) (by decide +kernel) lb (PySem.F.args_bexc_ga _ _) ?_
  unfold Builtin.«object.__getattribute__»
  refine wpAny_bind (wpAny_of_eq (a := ((Value.ref x : Value), [Value.str "__class__" tk])) (by first | rfl | (simp only [slotArgs]; rfl)) (wpAny_bind (wpAny_pure (wpAny_bind (lt.at (wpAny_bind (lf.at ?_)))))))
  dsimp only
  refine wpAny_bind (wpAny_holding (wpAny_call (class_get (s := ⟨hh, gs, dr, tk + 1, os⟩) KX I C.hm ?_)))
  refine wpAny_pure ?_
  dsimp only
  rw [PySem.W.handedOut_of (v := .ref D) rfl]
  first
    | exact wpAny_pure (wpAny_pure q)
    | exact wpAny_pure q
    | exact wpAny_pure (wpAny_bind (wpAny_pure (wpAny_pure q)))
theorem kit_err (C : ExcC K D) : KitX K (.ref x) (.ref D) (fun h => InstAt h x ox D od) := by
  have there : ∀ h : Heap, K.In h → ∃ o cd, h.get? D = some o ∧ o.data = .cls cd := fun h KX => by
    obtain ⟨cd, e, _⟩ := any_some C.hd
    unfold clsIn at e
    split at e
    · rename_i c d cd' sl ho
      exact ⟨_, _, KX _ _ ho, rfl⟩
    · cases e
  refine ⟨fun _ _ _ I => I.type, fun M h KX _ => ?_, fun h tp dd its n sl KX htp => ?_, fun KX I k => err_class C KX I k⟩
  · obtain ⟨o, cd, ho, hd⟩ := there h KX
    intro A' Q' E' s' k q
    unfold isType loadHead
    refine wpAny_bind (wpAny_loadPart (k _ _ ho) ?_)
    rw [hd]
    exact wpAny_pure q
  · obtain ⟨o, cd, ho, hd⟩ := there h KX
    refine Bool.eq_false_iff.mpr fun z => ?_
    have e : D = tp := Value.ref.inj (beq_iff_eq.mp z)
    subst e
    have e2 := Option.some.inj (ho.symm.trans htp)
    subst e2
    cases hd
end
/-- isinstance(e, c), e the error that the suite holds, with its dict -/
def rIsX (K : PySem.W.Frag) (a : Addr) (cls : Value) (d : Option Addr) (C : Addr) : List V → Hp → VK → Prop := fun xs H Q => ∃ (c : V) (cv : Value) (b : Bool) (dd : Addr) (fs : List (Str × V)), xs = [.ref a, c] ∧ cls = .ref C ∧ d = some dd ∧ H dd = some (.xd fs) ∧
  ClsV c cv ∧ PySem.W.kitOne K (.ref C) cv = some b ∧ Q (.bl b) H
theorem cl_isX {X : Cx} {a C : Addr} {oe : Obj} {cls : Value} {d : Option Addr} {pn : List (Addr × Obj)} (T : ExcC X.K C) (hz : Zc cls d oe) (hf : ∃ vs, oe.data = .fields vs) : CallR (X.suite a ((a, oe) :: pn)) (.builtin "isinstance") (rIsX X.K a cls d C) := by
  intro pins s σ H xs us Q I r h
  obtain ⟨c, cv, b, dd, fs, rfl, rfl, rfl, hx, kc, e, q⟩ := h
  cases r with
  | @cons _ u0 _ ur rx rr =>
    cases rr with
    | @cons _ u1 _ ur2 rt rn =>
      cases rn
      cases (show u0 = Value.ref a from rx)
      have e1 := kc.eq rt
      subst e1
      obtain ⟨hget, _⟩ := I.pin (a, oe) (List.mem_append.mpr (.inl List.mem_cons_self))
      obtain ⟨vs, hv⟩ := hf
      obtain ⟨mA, ⟨od, es, ep, ho, hr⟩, rel⟩ := (show ObjOk X.prog X.w H s.heap dd (.xd fs) from I.hok dd _ hx)
      have J : PySem.W.InstAt s.heap a oe C (some od) := by
        refine ⟨hget, hz.1, ?_, ?_⟩
        · unfold PySem.W.notCls; rw [hv]
        · rw [hz.2]; exact ho
      exact PySem.W.kia_one (kit_err T) I.kIn J e (fun z => nomatch z) fun tk => ⟨.bl b, H, I.kept (t' := tk) fun _ _ z => z, rfl, q⟩
/-- steps: e.f, isinstance(e, c) -/
def kXf (a : Addr) (cls : Value) (d : Option Addr) (C : Addr) (f : Str) (Q : VK) (x : V) (H1 : Hp) : Prop := x = .ref a ∧ cls = .ref C ∧ ∃ (dd : Addr) (fs : List (Str × V)) (v : V), d = some dd ∧ H1 dd = some (.xd fs) ∧ fs.lookup f = some v ∧ Q v H1
section
variable {K : PySem.W.Frag} {H : Hp} {Q : VK} {a C dd : Addr} {f : Str} {v : V} {σ : L2.St} {te : TE} {cls : Value} {d : Option Addr}
instance : Step (tXf a cls d C f te σ H Q) (te σ H (kXf a cls d C f Q)) := ⟨fun h => h⟩
theorem g_xf {fs : List (Str × V)} (h : H dd = some (.xd fs)) (e : fs.lookup f = some v) (q : Q v H) : kXf a (.ref C) (some dd) C f Q (.ref a) H := ⟨rfl, rfl, dd, fs, v, rfl, h, e, q⟩
theorem g_isX {fs : List (Str × V)} {c : V} {cv : Value} {b : Bool} (h : H dd = some (.xd fs)) (kc : ClsV c cv) (e : PySem.W.kitOne K (.ref C) cv = some b) (q : Q (.bl b) H) : rIsX K a (.ref C) (some dd) C [.ref a, c] H Q :=
  ⟨c, cv, b, dd, fs, rfl, rfl, rfl, h, kc, e, q⟩
end
/-! several clauses, each one with the name n in slot i -/
def offI (i : Nat) (D : Ends) : Ends := { nx := fun σ H => D.nx (σ.set i none) H, rt := D.rt, bk := fun σ H => D.bk (σ.set i none) H, ct := fun σ H => D.ct (σ.set i none) H }
def wNam (K : PySem.W.Frag) (i : Nat) (Wout : WX) (D : Ends) : List (Value × (Addr → Value → Option Addr → TS)) → WX
  | [] => Wout
  | (c, ts) :: r => fun cls d σ H => ∃ b, PySem.W.exmOne K cls c = some b ∧ (b = true → ∀ a, H a = none → ts a cls d (offI i D) (σ.set i (some (.ref a))) H) ∧ (b = false → wNam K i Wout D r cls d σ H)
inductive HdN (X : Cx) (n : Str) : List ExceptHandler → List (Value × (Addr → Value → Option Addr → TS)) → Prop
  | nil : HdN X n [] []
  | cons {x : Str} {c : Value} {ts : Addr → Value → Option Addr → TS} {b₀ : Stmt} {suite : List Stmt} {np p' : Pos} {hds : List ExceptHandler} {l : List (Value × (Addr → Value → Option Addr → TS))} (hc : Names X x c)
      (hsu : ∀ (a : Addr) (oe : Obj) (cls : Value) (d : Option Addr) (pn : List (Addr × Obj)), Zc cls d oe → (∃ vs, oe.data = .fields vs) → PSs (X.suite a ((a, oe) :: pn)) (b₀ :: suite) (ts a cls d)) (r : HdN X n hds l) :
      HdN X n (.ExceptHandler (some (.Name x np)) (some n) (b₀ :: suite) p' :: hds) ((c, ts) :: l)
section
variable {X : Cx} {n : Str} {i : Nat} {body : List Stmt} {h₀ : ExceptHandler} {hds : List ExceptHandler} {l : List (Value × (Addr → Value → Option Addr → TS))} {pos : Pos} {tb : WX → TS} {Wout : WX}
theorem ps_try_nam (hs : X.stack = X.env :: X.outer) (hf : X.env.frame = some X.env.locals) (hN : X.N.Nodup) (hi : X.N[i]? = some n) (hln : X.env.kindOf n = some .local) (tk : Takes X Wout)
    (hb : ∀ (W : WX) (pn : List (Addr × Obj)) (xe : Value → Shared → Prop), Takes (X.tr pn xe) W → PassesOwn (model X.prog X.w) X.A X.env xe → PSs (X.tr pn xe) body (tb W))
    (hh : HdN X n (h₀ :: hds) l) : PS X (.Try body (h₀ :: hds) [] [] pos) (fun D σ H => tb (wNam X.K i Wout D l) D σ H) := by
  constructor
  intro pins s σ H D I h
  have ok := I.ok
  have frm : X.A.frames = some (X.env :: X.outer) := by rw [ok.frames, hs]
  have own : Loc X.env.scope n := .inl hln
  -- the suites, one behind the other, for the error at a
  let caught : Value → Shared → Prop := fun e s₁ => wpAny (model X.prog X.w) X.A (noteFrame e X.env) (fun _ s₂ => wpAny (model X.prog X.w) X.A (setFlight e none) (fun _ s₃ =>
    wpAny (model X.prog X.w) X.A (handleBy e X.env (h₀ :: hds)) (SP X pins D) X.xe s₃) X.xe s₂) X.xe s₁
  have land : Takes (X.tr (X.pn ++ pins) caught) (wNam X.K i Wout D l) := by
    rintro u s' ⟨a, B, sI, pins', σ', H', cls, d, rfl, J', nb, up, sky, na, eos, ag, w⟩
    have J : Inv X pins σ' H' sI := J'.ofTry ok
    have sky1 : Sky B (X.env :: X.outer) a (Zc cls d) X.env.locals s'.heap := by rw [← hs]; exact sky
    refine Sky.land Zc.steady frm hf sky1 fun h1 fl up1 => ?_
    have onGround : ∀ h2, B.StaysIn h2 → h1.UpToSlots h2 → Inv X pins σ' H' { s' with heap := h2 } := fun h2 st up2 => J.landed nb st ((up.trans up1).trans up2) eos ag
    have J1 := onGround h1 fl.1 (Heap.UpToSlots.refl _)
    obtain ⟨o1, v1, e1, z1, d1⟩ := fl.there
    have off : a ∉ frs (X.env :: X.outer) := fun m => by
      obtain ⟨_, o', e', nf⟩ := fl.2.2.1.mem m
      have y := Option.some.inj (e1.symm.trans e')
      subst y
      exact nf _ d1
    have nL : a ≠ X.env.locals := fun z => off (List.mem_filterMap.mpr ⟨X.env, List.mem_cons_self, by rw [hf, z]⟩)
    have nF : a ∉ X.fs := fun m => by
      obtain ⟨e, he, y⟩ := List.mem_filterMap.mp m
      exact off (List.mem_filterMap.mpr ⟨e, List.mem_cons_of_mem _ he, y⟩)
    have S1 := J1.suite e1 d1 na nL nF
    have each : ∀ {hs' : List ExceptHandler} {l' : List (Value × (Addr → Value → Option Addr → TS))}, HdN X n hs' l' → wNam X.K i Wout D l' cls d σ' H' →
        wpAny (model X.prog X.w) X.A (handleBy (.ref a) X.env hs') (SP X pins D) X.xe { s' with heap := h1 } := by
      intro hs' l' k
      induction k with
      | nil =>
        intro w
        refine wpAny_handleBy_nil ?_
        obtain ⟨_, _, _, oe, vs, T, oT, ts', he, hz, hd, hT, _⟩ := id fl
        unfold PySem.passOn
        refine wpAny_bind (wpAny_field he hd hT ?_)
        rw [if_neg (show ¬ ((Value.ref T == Value.none) = true) from by simp)]
        have out : wpAny (model X.prog X.w) X.A (setFlight (.ref a) X.env.frame) (fun _ s4 => wpAny (model X.prog X.w) X.A (throw (.ref a) : Sem Flow) (SP X pins D) X.xe s4) X.xe { s' with heap := h1 } := by
          rw [hf]
          exact HandSPX.setFlight_upZ fl fun h2 held up2 => wpAny_throw (tk _ _ ⟨a, B, sI, pins, σ', H', cls, d, rfl, J, nb, (up.trans up1).trans up2, .inr (.inr (by rw [hs]; exact held)), na, eos, ag, w⟩)
        first
          | exact wpAny_bind (wpAny_pure (wpAny_bind out))
          | exact wpAny_bind out
      | @cons x c ts b₀ suite np p' hd2 l2 hc hsu r ih =>
        intro w
        obtain ⟨b, hb1, yes, no⟩ := w
        refine wpAny_handleBy_cons (codeAny_handlers_test ?_) (fun q => nomatch q)
        have isT : PySem.W.Looks (model X.prog X.w) h1 (typeOf (.ref a)) cls := fun _ _ _ _ k q => wpAny_typeOf_ref (k _ _ e1) (by rw [z1.1]; exact q)
        have named : ∀ {Q E : Value → Shared → Prop}, Q c { s' with heap := h1 } → wpAny (model X.prog X.w) (X.A.mark (some (.ref a))) (eval (.Name x np) X.env) Q E { s' with heap := h1 } := fun q => by
          obtain ⟨hg, dbg, z⟩ := hc
          rcases z with z | ⟨z, zv, zn⟩
          · exact ld_glob (X := X.suite a ((a, o1) :: (X.pn ++ pins))) S1 hg z q dbg
          · exact ld_blt (X := X.suite a ((a, o1) :: (X.pn ++ pins))) S1 hg z zv q zn dbg
        refine named ((PySem.W.exm_one (M := model X.prog X.w) J1.kIn isT hb1).here ?_)
        cases b with
        | false =>
          show wpAny _ X.A (handleBy (.ref a) X.env hd2) _ _ _
          exact ih (no rfl)
        | true =>
          refine codeAny_handlers_suite_as (HandSPX.lands_againZ fl fun h2 fl2 up2 => ?_)
          have J2 := onGround h2 fl2.1 up2
          obtain ⟨o2, v2, e2, z2, d2⟩ := fl2.there
          refine store_ok (X := X.suite a ((a, o2) :: (X.pn ++ pins))) (v := .ref a) (J2.suite e2 d2 na nL nF) hN hi own rfl (fun s3 S3 => ?_) (.inr hln)
          refine wpAny_mono ((hsu a o2 cls d (X.pn ++ pins) z2 ⟨_, d2⟩).run [] s3 _ H' _ S3 (yes rfl a na)) ?_ (fun _ _ z => False.elim z)
          intro fw s4 hsp
          have gone : ∀ {σ4 : L2.St} {H4 : Hp} {R : Shared → Prop}, Inv (X.suite a ((a, o2) :: (X.pn ++ pins))) [] σ4 H4 s4 → (∀ s5, Inv X pins (σ4.set i none) H4 s5 → R s5) →
              wpAny (model X.prog X.w) X.A (do bindName X.env n .none; unbindBehindTheSuite X.env n p') (fun _ s5 => R s5) X.xe s4 := fun S4 hR => gone_ok (S4.unsuite ok) hN hi hln hR
          cases fw with
          | ret u =>
            obtain ⟨v4, σ4, H4, S4, r4, q4⟩ := hsp
            exact gone S4 fun s5 J5 => ⟨_, _, _, J5, r4, q4⟩
          | _ =>
            obtain ⟨σ4, H4, S4, q4⟩ := hsp
            exact gone S4 fun s5 J5 => ⟨_, _, J5, q4⟩
    exact each hh w
  refine wpAny_Try_except (wpAny_mono ((hb (wNam X.K i Wout D l) (X.pn ++ pins) caught land PassesOwn.looking).run [] s σ H D (I.toTry _) h) ?_ (fun e s1 z => z))
  intro fw s1 hsp
  cases fw with
  | next =>
    obtain ⟨σ1, H1, J1, q⟩ := hsp
    exact wpAny_execs_nil ⟨σ1, H1, J1.ofTry ok, q⟩
  | ret u =>
    obtain ⟨v, σ1, H1, J1, r, q⟩ := hsp
    exact ⟨v, σ1, H1, J1.ofTry ok, r, q⟩
  | _ =>
    obtain ⟨σ1, H1, J1, q⟩ := hsp
    exact ⟨σ1, H1, J1.ofTry ok, q⟩
end
end AF
/-! calls within a try: what is raised is wished for at the slots; x.get(k, v) of a dict; t.index(x) -/
namespace AF
open PySem PySem.Spec PyProof.Rows L2
def tCallW (sp : Sp) (W : WX) (t : TA) : TE := fun σ H Q => t σ H fun vs H1 => sp vs H1 Q (fun cls d H' => W cls d σ H')
section
variable {X : Cx} {k : Nat} {f : Addr} {ps : List Str} {sp : Sp} {W : WX} {x : Str} {p pos : Pos} {e : Expr} {es : List Expr} {t : TA}
theorem pe_dnW (D : Dn X.prog X.w X.K X.mg X.base k f ps sp) (hr : Room k X.A) (hg : Gl X x) (hm : X.mg x = some (.ref f)) (tk : Takes X W) (ha : PA X (e :: es) t) (hdb : (x == ("__debug__" : Str)) = false := by decide)
    (he : starEach (e :: es) X.env = (false, eval e X.env) :: starEach es X.env := by rfl) (hpl : (backTo pos (starEach es X.env)).any (·.1) = false := by rfl) : PE X (.Call (.Name x p) (e :: es) [] pos) (tCallW sp W t) := by
  obtain ⟨fd, F, b⟩ := D.ex
  have z := pe_callSD (E := fun σ cls d H' => W cls d σ H') (p := p) F hr hg hm D.kp b .nil (fun σ => fun pins H s e s' I c => tk e s' (XE.of_call I (fun _ _ _ h => h) c)) ha hdb he hpl
  refine ⟨fun pins s σ H Q I h => z.run pins s σ H Q I ?_⟩
  show t σ H fun vs H1 => sp (vs ++ []) H1 Q (fun cls d H' => W cls d σ H')
  have e1 : (fun (vs : List V) (H1 : Hp) => sp (vs ++ []) H1 Q (fun cls d H' => W cls d σ H')) = fun vs H1 => sp vs H1 Q (fun cls d H' => W cls d σ H') := by
    funext vs H1
    rw [List.append_nil]
  rw [e1]
  exact h
end
instance {sp : Sp} {W : WX} {t : TA} {σ : L2.St} {H : Hp} {Q : VK} : Step (tCallW sp W t σ H Q) (t σ H fun vs H1 => sp vs H1 Q (fun cls d H' => W cls d σ H')) := ⟨fun h => h⟩
/-! d.get(k, v) -/
def kG2 (ty tx : TE) (σ : L2.St) (Q : VK) (x : V) (H1 : Hp) : Prop := ∃ a, x = .ref a ∧ IsD H1 a ∧ ty σ H1 fun y H2 => tx σ H2 fun z H3 => ∃ o, DGet H3 a y o ∧ Q (o.getD z) H3
def kG3 (a : Addr) (Q : VK) (y z : V) (H3 : Hp) : Prop := ∃ o, DGet H3 a y o ∧ Q (o.getD z) H3
section
variable {K : PySem.W.Frag} {H : Hp} {Q : VK} {a p : Addr} {kvs : List (Key × V)} {td ty tx : TE} {σ : L2.St} {s : Str} {z : V} {o : Option V}
instance : Step (tDGet2 td ty tx σ H Q) (td σ H (kG2 ty tx σ Q)) := ⟨fun h => h⟩
theorem g_kg2 (h : H a = some (.dK kvs)) (q : ty σ H fun y H2 => tx σ H2 (kG3 a Q y)) : kG2 ty tx σ Q (.ref a) H := ⟨a, rfl, .inl ⟨kvs, .inl h⟩, q⟩
theorem g_kg3 (h : H a = some (.dK kvs)) (e : valV kvs (.inr s) = o) (q : Q (o.getD z) H) : kG3 a Q (.str s) z H := by
  subst e
  exact ⟨_, DGet.k (k := .inr s) h, q⟩
theorem g_kgS {v : V} (h : H a = some (.dK kvs)) (e : valV kvs (.inr s) = some v) (q : Q v H) : kG3 a Q (.str s) z H := g_kg3 h e q
theorem g_kgN (h : H a = some (.dK kvs)) (e : valV kvs (.inr s) = none) (q : Q z H) : kG3 a Q (.str s) z H := g_kg3 h e q
end
/-! t.index(x) of texts -/
def rIdx (K : PySem.W.Frag) : V → List V → Hp → VK → Prop := fun x xs H Q => ∃ p, ∃ ys : List Str, ∃ z j, x = .ref p ∧ xs = [.str z] ∧ SqT K H p (ys.map V.str) ∧ ys[j]? = some z ∧ (∀ m, m < j → ys[m]? ≠ some z) ∧ Q (.int (j : Nat)) H
theorem mt_idxK {X : Cx} {K : PySem.W.Frag} (hK : X.K = K := by rfl) : MtR X "tuple.index" (rIdx K) := hK ▸ mt_tup_index
section
variable {X : Cx} {K : PySem.W.Frag} {o e : Expr} {es : List Expr} {to : TE} {t : TA} {name : Str} {apos cpos : Pos} {T id : String} {r : V → List V → Hp → VK → Prop}
theorem pe_bmK (pa : PlainAttrs T) (slot : Slot T name id) (hty : typeOf (.builtin id) = pure (.type "method_descriptor")) (hm : MtR X id r) (ho : PE X o to) (ha : PA X (e :: es) t)
    (hbase : attributeBase o name X.env (eval o X.env) = eval o X.env := by rfl)
    (hfew : ((backTo cpos (starEach (e :: es) X.env)).all (fun x => !x.1) && (backToKw cpos (keywordEach [] X.env)).all (fun x => x.1.isSome)
      && decide ((e :: es).length + ([] : List Keyword).length + (if ([] : List Keyword).isEmpty then 0 else 1) < 30)) = true := by rfl)
    (hline : (apos.endLine == cpos.line) = true := by rfl) (hs : starEach (e :: es) X.env = (false, eval e X.env) :: starEach es X.env := by rfl) (hplain : (backTo cpos (starEach es X.env)).any (·.1) = false := by rfl) (hK : X.K = K := by rfl) :
    PE X (.Call (.Attribute o name apos) (e :: es) [] cpos) (tBM K T r to t) := hK ▸ pe_bm pa slot hty hm ho ha hbase hfew hline hs hplain
theorem g_idx {H : Hp} {Q : VK} {p : Addr} {ys : List Str} {z : Str} {j : Nat} (h : SqT K H p (ys.map V.str)) (e : ys[j]? = some z) (n : ∀ m, m < j → ys[m]? ≠ some z) (q : Q (.int (j : Nat)) H) : rIdx K (.ref p) [.str z] H Q := ⟨p, ys, z, j, rfl, rfl, h, e, n, q⟩
end
/-- a written tuple without a dict of its own -/
def tdB (K : PySem.W.Frag) (a : Addr) : Bool := match K.lookup a with
  | some ⟨.type c, d, _, _⟩ => decide (c = "tuple") && d.isNone
  | _ => false
theorem tdB_ok {K : PySem.W.Frag} {a : Addr} (h : tdB K a = true) : ∃ o, K.lookup a = some o ∧ o.cls = .type "tuple" ∧ o.dict = none := by
  unfold tdB at h
  split at h
  · rename_i c d x y e
    obtain ⟨h1, h2⟩ := Bool.and_eq_true_iff.mp h
    refine ⟨_, e, by rw [of_decide_eq_true h1], ?_⟩
    cases d with
    | none => rfl
    | some _ => cases h2
  · cases h
theorem g_kidx {K : PySem.W.Frag} {H : Hp} {Q : VK} {p : Addr} {σ : L2.St} {t : TA} (td : ∃ o, K.lookup p = some o ∧ o.cls = .type "tuple" ∧ o.dict = none) (q : t σ H fun xs H2 => rIdx K (.ref p) xs H2 Q) : kBM K "tuple" (rIdx K) t σ Q (.ref p) H :=
  ⟨.inr (.inl ⟨rfl, td⟩), q⟩
end AF
/-! steps of clauses -/
namespace AF
open PySem PySem.Spec PyProof.Rows L2
theorem hu100 {k : Nat} {A : Around} (r : Room k A) : A.units + 100 < cLine := by have := r.un; omega
section
variable {K : PySem.W.Frag} {i : Nat} {Wout : WX} {D : Ends} {c cls : Value} {ts : Addr → Value → Option Addr → TS} {r : List (Value × (Addr → Value → Option Addr → TS))} {d : Option Addr} {σ : L2.St} {H : Hp}
theorem g_wyes (e : PySem.W.exmOne K cls c = some true) (q : ∀ a, H a = none → ts a cls d (offI i D) (σ.set i (some (.ref a))) H) : wNam K i Wout D ((c, ts) :: r) cls d σ H := ⟨true, e, fun _ => q, fun z => nomatch z⟩
theorem g_wno (e : PySem.W.exmOne K cls c = some false) (q : wNam K i Wout D r cls d σ H) : wNam K i Wout D ((c, ts) :: r) cls d σ H := ⟨false, e, fun z => (nomatch z), fun _ => q⟩
end
theorem g_off {i : Nat} {nx : L2.St → Hp → Prop} {rt : VK} {bk ct : L2.St → Hp → Prop} {t : TS} {σ : L2.St} {H : Hp} (q : t ⟨fun σ H => nx (σ.set i none) H, rt, fun σ H => bk (σ.set i none) H, fun σ H => ct (σ.set i none) H⟩ σ H) : t (offI i ⟨nx, rt, bk, ct⟩) σ H := q
instance {σ σ' σ'' : L2.St} {i j : Nat} {v : V} [h : SetI σ i v σ'] [h2 : ClrI σ' j σ''] : ClrI (σ.set i (some v)) j σ'' := ⟨by rw [h.eq]; exact h2.eq⟩
theorem clr_goE {σ σ' : L2.St} {i : Nat} {H : Hp} {Q : VK} {A : TE} [h : ClrI σ i σ'] (q : A σ' H Q) : A (σ.set i none) H Q := by rw [h.eq]; exact q
theorem clr_go {σ σ' : L2.St} {i : Nat} {H : Hp} {A : L2.St → Hp → Prop} [h : ClrI σ i σ'] (q : A σ' H) : A (σ.set i none) H := by rw [h.eq]; exact q
/-- a caught error's class holds what we ask of it -/
def exB (K : PySem.W.Frag) (C : Addr) : Bool := He.eqO (PySem.W.findIn K (.ref C) "__getattribute__") (some (some (.builtin "BaseException.__getattribute__"))) && (He.eqO (PySem.W.findIn K (.ref C) "__getattr__") (some none) && (decide (PySem.W.subIn K (.ref C) (.type "BaseException") = some true) &&
  (PySem.W.hasDictIn K C && (He.eqO (PySem.W.findIn K (.ref C) "__class__") (some (some (.builtin "object.__class__"))) && (He.eqO (PySem.W.specialIn K (.builtin "object.__class__") "__get__") (some (some (.builtin "getset_descriptor.__get__"))) &&
  (decide (PySem.W.takesIn K (.builtin "object.__class__") = some true) && decide (PySem.W.mroIn K C (.type "object") = some true)))))))
theorem exB_ok {K : PySem.W.Frag} {C : Addr} (h : exB K C = true) : ExcC K C := by
  obtain ⟨h1, h⟩ := He.ba h
  obtain ⟨h2, h⟩ := He.ba h
  obtain ⟨h3, h⟩ := He.ba h
  obtain ⟨h4, h⟩ := He.ba h
  obtain ⟨h5, h⟩ := He.ba h
  obtain ⟨h6, h⟩ := He.ba h
  obtain ⟨h7, h8⟩ := He.ba h
  exact ⟨He.eqO_ok h1, He.eqO_ok h2, of_decide_eq_true h3, h4, He.eqO_ok h5, He.eqO_ok h6, of_decide_eq_true h7, of_decide_eq_true h8⟩
theorem xf_of {K : PySem.W.Frag} {C : Addr} (h : ExcC K C) : XfC K C := ⟨h.hg, h.hk, h.hs, h.hd⟩
theorem pe_xfD {X : Cx} {a C : Addr} {oe : Obj} {cls : Value} {d : Option Addr} {pn : List (Addr × Obj)} {e : Expr} {te : TE} {pos : Pos} {n : Str} (T : ExcC X.K C) (hno : PySem.W.findIn X.K (.ref C) n = some none) (hz : Zc cls d oe) (hf : ∃ vs, oe.data = .fields vs)
    (he : PE (X.suite a ((a, oe) :: pn)) e te) (hb : attributeBase e n X.env (eval e X.env) = eval e X.env := by rfl) : PE (X.suite a ((a, oe) :: pn)) (.Attribute e n pos) (tXf a cls d C n te) := pe_xf (xf_of T) hno hz hf he hb
end AF
/-! two names out of a pair; lists put together; is None -/
namespace AF
open PySem PySem.Spec PyProof.Rows L2
section
variable {K : PySem.W.Frag} {σ σ1 σ2 : L2.St} {H H0 : Hp} {M : Addr → Prop} {l : List Ent} {te : TE} {i j : Nat} {nx : L2.St → Hp → Prop} {rt : VK} {bk ct : L2.St → Hp → Prop} {a b : Addr} {u v : V} {Q : VK}
def kUnp (K : PySem.W.Frag) (i j : Nat) (σ : L2.St) (nx : L2.St → Hp → Prop) (x : V) (H : Hp) : Prop := gTup K 2 (gCons (gName i) (gCons (gName j) gNil)) x σ H nx
instance (priority := 900) : Step (tAsg te (gTup K 2 (gCons (gName i) (gCons (gName j) gNil))) ⟨nx, rt, bk, ct⟩ σ H) (te σ H (kUnp K i j σ nx)) := ⟨fun h => h⟩
theorem g_unp [h1 : SetI σ i u σ1] [h2 : SetI σ1 j v σ2] (h : H a = some (.tup [u, v])) (k : nx σ2 H) : kUnp K i j σ nx (.ref a) H := by
  refine ⟨a, [u, v], rfl, SqT.of h, rfl, u, [v], rfl, v, [], rfl, rfl, ?_⟩
  show nx ((σ.set i (some u)).set j (some v)) H
  rw [h1.eq, h2.eq]
  exact k
theorem g_catl {xs ys : List V} (S : Sh H0 M H l) (hx : On l a (.lst xs)) (hy : On l b (.lst ys)) (hn : Nat.ble (xs.length + ys.length) 1000 = true) (q : ∀ p H', H p = none → Sh H0 M H' ((p, .lst (xs ++ ys), true) :: l) → Q (.ref p) H') : rCat (.ref a) (.ref b) H Q :=
  ⟨a, b, xs, ys, rfl, rfl, S.has_ hx, S.has_ hy, line_of hn, fun p hp => q p _ hp (S.new hp)⟩
def rNotN : R2 := fun x y H Q => y = V.non ∧ Q (.bl (!decide (x = V.non))) H
theorem g_nn {x : V} {r : Bool} (e : (!decide (x = V.non)) = r) (q : Q (.bl r) H) : (fun x y H Q => y = V.non ∧ Q (V.bl (!decide (x = V.non))) H : R2) x .non H Q := ⟨rfl, by
  show Q (.bl (!decide (x = V.non))) H
  rw [e]; exact q⟩
end
theorem Sh.cut {H0 H : Hp} {M : Addr → Prop} {l l' : List Ent} (S : Sh H0 M H l) (s : List.Sublist l' l) : Sh H0 M H l' := ⟨S.fr, fun e he => S.has e (s.subset he), S.ap.sublist (s.map tag), fun e he => S.mu e (s.subset he)⟩
theorem g_inl {K : PySem.W.Frag} {H : Hp} {Q : VK} {p : Addr} {xs : List V} {x : V} {r : Bool} (h : H p = some (.lst xs)) (fx : flatV x = true) (fs : xs.all flatV = true) (e : inV x xs = r) (q : Q (.bl r) H) : rIn K false x (.ref p) H Q := ⟨p, xs, rfl, .inl (SqL.of h), fx, fs, by rw [e]; exact q⟩
/-- six statements, then the rest -/
theorem g_cut6 {t1 t2 t3 t4 t5 t6 u : TS} {nx : L2.St → Hp → Prop} {rt : VK} {bk ct : L2.St → Hp → Prop} {σ : L2.St} {H : Hp} (P : L2.St → Hp → Prop)
    (a : ∀ nx' : L2.St → Hp → Prop, (∀ σ H, P σ H → nx' σ H) → tSeq t1 (tSeq t2 (tSeq t3 (tSeq t4 (tSeq t5 t6)))) ⟨nx', rt, bk, ct⟩ σ H) (b : ∀ σ H, P σ H → u ⟨nx, rt, bk, ct⟩ σ H) :
    tSeq t1 (tSeq t2 (tSeq t3 (tSeq t4 (tSeq t5 (tSeq t6 u))))) ⟨nx, rt, bk, ct⟩ σ H := a (fun σ H => u ⟨nx, rt, bk, ct⟩ σ H) b
theorem shaped2 {z : Str} {b : Bool} (h : PyData.canLay0 (.str z) = true) : SeqAt.shaped (.list [.str z, .bool b]) = true := by
  have e1 : PyData.canLay0 (.list [.str z, .bool b]) = true := by
    show (PyData.canLay0 (.str z) && (true && true)) = true
    rw [h]; rfl
  show (PyData.canLay0 _ && decide (PyData.depth (.list [.str z, .bool b]) ≤ 64)) = true
  rw [e1, Bool.true_and]
  refine decide_eq_true ?_
  simp [PyData.depth, PyData.depthAll]
end AF
/-! lambdas without parameters as values: made, kept, handed to a def that calls them in a try *-/
namespace AF
open PySem PySem.Spec PyProof.Rows L2 LamX
/-- a lambda at f, its code at c' -/
def LamO (q : Str) (cells : List (Str × Addr)) (params : Arguments) (body : Expr) (scope : Scope) (c' f : Addr) : HO :=
  .ext fun h => ∃ pm ctv, h.get? f = some (PySem.W.kla_obj "<lambda>" (q ++ "<lambda>") params body scope (cloFrom cells scope.names []) pm c' ctv)
theorem lamO_ok {P : Program} {w : World} {H : Hp} {h : Heap} {q : Str} {cells : List (Str × Addr)} {params : Arguments} {body : Expr} {scope : Scope} {c' f : Addr} {pm ctv : Value}
    (e : h.get? f = some (PySem.W.kla_obj "<lambda>" (q ++ "<lambda>") params body scope (cloFrom cells scope.names []) pm c' ctv)) : ObjOk P w H h f (LamO q cells params body scope c' f) :=
  ⟨⟨pm, ctv, e⟩, ⟨_, e⟩, fun _ _ ⟨a, b, z⟩ k => ⟨a, b, k _ z⟩⟩
section
variable {X : Cx} {pins : List (Addr × Obj)} {σ : L2.St} {H : Hp} {s : Shared}
/-- what stands behind the making of a lambda -/
structure LamMade (T : List (Addr × Str)) (q : Str) (cells : List (Str × Addr)) (params : Arguments) (body : Expr) (scope : Scope) (H H1 : Hp) (f c' : Addr) : Prop where
  ext : ExtN H H1
  tabs : Tabs T H1
  lam : H1 f = some (LamO q cells params body scope c' f)
  code : H1 c' = some (CodeO c' (q ++ "<lambda>"))
  new : H f = none
theorem lamO_ne {q : Str} {cells : List (Str × Addr)} {params : Arguments} {body : Expr} {scope : Scope} {c' f : Addr} (ps : Array Value) : LamO q cells params body scope c' f ≠ .tbl ps := fun z => by
  unfold LamO at z; cases z
theorem lam_hold {T : List (Addr × Str)} {c P : Addr} {params : Arguments} {body : Expr} {scope : Scope} {pos : Pos} {E : Value → Shared → Prop} {Q : Value → Shared → Prop} (I : Inv X pins σ H s) (TB : TabB X.base X.mg c P) (hcode : X.env.code = .ref c)
    (hm : (P, X.env.qual ++ "<lambda>") ∈ T) (hu : ∀ p ∈ T, p.1 = P → p.2 = X.env.qual ++ "<lambda>") (hT : Tabs T H) (hdef : defaultsOf params X.env = ([], [])) (hfree : ∀ y ∈ scope.names, y.2 = .free → ∃ c, X.env.cells.lookup y.1 = some c)
    (k : ∀ f c' H1 s', Inv X pins σ H1 s' → LamMade T X.env.qual X.env.cells params body scope H H1 f c' → Q (.ref f) s') : wpAny (model X.prog X.w) X.A (eval (.Lambda params body scope pos) X.env) Q E s := by
  obtain ⟨ps, tp, tr, tc⟩ := hT _ hm
  refine PySem.W.kla_eval hdef ?_
  have objP : s.heap.get? P = some { cls := .none, data := .fields ps } := I.hok P _ tp
  have blt : s.heap.BuiltinsAt X.mg P := TB.bm.keeps I.bk
  cases among : codeAmong pos ps.toList with
  | some cv =>
    -- the table has its code
    obtain ⟨c', rfl, hco⟩ := tc pos cv among
    refine PySem.W.kla_makeFunctionHit (mg := X.mg) (c := c) (P := P) (ps := ps) (closure_ok hfree) I.ok.glob (I.mod.glob.keeps I.bk) hcode (TB.code.keeps I.bk) objP tr among blt ?_
    intro ctv h' tk grow size
    have I1 : Inv X pins σ H { s with heap := h', toks := tk } := I.kept grow
    have fr : H h'.objs.size = none := I1.hok.fresh (Nat.le_refl _)
    have here : ∀ o, H h'.objs.size ≠ some o := fun o z => by rw [fr] at z; cases z
    refine k h'.objs.size c' _ _ (I1.laid (t' := tk) (a := h'.objs.size) (o := LamO X.env.qual X.env.cells params body scope c' h'.objs.size) (fun b o e => Heap.get?_push_of_some _ e) (Nat.le_refl _) (lamO_ok (Heap.get?_push_size _ rfl))) ?_
    have ex : ∀ b o, H b = some o → upd H h'.objs.size (LamO X.env.qual X.env.cells params body scope c' h'.objs.size) b = some o := fun b o e => by rw [upd_ne (ne_of_none e fr)]; exact e
    exact ⟨fun b o e _ => ex b o e, hT.ext ex, upd_same, ex _ _ hco, fr⟩
  | none =>
    refine PySem.W.kla_makeFunction (mg := X.mg) (c := c) (P := P) (ps := ps) (closure_ok hfree) I.ok.glob (I.mod.glob.keeps I.bk) hcode (TB.code.keeps I.bk) objP tr among TB.gP blt ?_
    rintro c' ctv h' tk grow low high ⟨c2, oc, us, t, e2, e3, e4, e5⟩ now
    cases e2
    have nC : H c' = none := I.hok.fresh low
    have nF : H h'.objs.size = none := I.hok.fresh (Nat.le_trans low (Nat.le_of_lt high))
    have ncP : c' ≠ P := fun z => by rw [z, tp] at nC; cases nC
    have nfP : h'.objs.size ≠ P := fun z => by rw [z, tp] at nF; cases nF
    have nfc : h'.objs.size ≠ c' := Nat.ne_of_gt high
    have I1 := inv_table (t' := tk) (q := X.env.qual ++ "<lambda>") (more := #[rawInt pos.line, rawInt pos.col, .ref c']) (h' := h') I tp (fun b o n e => grow b o n e) now low ⟨oc, us, t, e3, e4, e5⟩
    have fr : upd (upd H P (.tbl (ps ++ #[rawInt pos.line, rawInt pos.col, .ref c']))) c' (CodeO c' (X.env.qual ++ "<lambda>")) h'.objs.size = none := by rw [upd_ne nfc, upd_ne nfP]; exact nF
    refine k h'.objs.size c' _ _ (I1.laid (t' := tk) (a := h'.objs.size) (o := LamO X.env.qual X.env.cells params body scope c' h'.objs.size) (fun b o e => Heap.get?_push_of_some _ e) (Nat.le_refl _) (lamO_ok (Heap.get?_push_size _ rfl))) ?_
    have ex : ExtN H (upd (upd (upd H P (.tbl (ps ++ #[rawInt pos.line, rawInt pos.col, .ref c']))) c' (CodeO c' (X.env.qual ++ "<lambda>"))) h'.objs.size (LamO X.env.qual X.env.cells params body scope c' h'.objs.size)) := fun b o e n => by
      have nb : b ≠ P := fun z => by rw [z, tp] at e; exact n ps (Option.some.inj e).symm
      rw [upd_ne (ne_of_none e nF), upd_ne (ne_of_none e nC), upd_ne nb]; exact e
    refine ⟨ex, fun p hp => ?_, upd_same, by rw [upd_ne nfc.symm, upd_same], nF⟩
    by_cases hb : p.1 = P
    · rw [hu p hp hb, hb]
      have el : (ps ++ #[rawInt pos.line, rawInt pos.col, .ref c']).toList = ps.toList ++ [rawInt pos.line, rawInt pos.col, .ref c'] := by simp
      refine ⟨_, by rw [upd_ne nfP.symm, upd_ne ncP.symm, upd_same], by rw [el]; exact PySem.TriplesOk_snoc _ _ _ _ tr, fun p' cv hcv => ?_⟩
      rw [el] at hcv
      rcases among_app _ tr hcv with z | z
      · obtain ⟨c0, y1, y2⟩ := tc p' cv z
        exact ⟨c0, y1, ex _ _ y2 codeO_ne⟩
      · exact ⟨c', z, by rw [upd_ne nfc.symm, upd_same]⟩
    · obtain ⟨qs, y1, y2, y3⟩ := hT p hp
      refine ⟨qs, by rw [upd_ne (ne_of_none y1 nF), upd_ne (ne_of_none y1 nC), upd_ne hb]; exact y1, y2, fun p' cv hcv => ?_⟩
      obtain ⟨c0, z1, z2⟩ := y3 p' cv hcv
      exact ⟨c0, z1, ex _ _ z2 codeO_ne⟩
end
/-- lambda: body -/
def tLamV (T : List (Addr × Str)) (q : Str) (cells : List (Str × Addr)) (params : Arguments) (body : Expr) (scope : Scope) : TE := fun _ H Q => Tabs T H ∧ ∀ f c' H1, LamMade T q cells params body scope H H1 f c' → Q (.ref f) H1
theorem pe_lamV {X : Cx} {T : List (Addr × Str)} {c P : Addr} {params : Arguments} {body : Expr} {scope : Scope} {pos : Pos} (TB : TabB X.base X.mg c P) (hcode : X.env.code = .ref c) (ok : ∀ {pins σ H s}, Inv X pins σ H s → X.Ok) (L : LamS X.env.scope scope)
    (hm : (P, X.env.qual ++ "<lambda>") ∈ T) (hu : ∀ p ∈ T, p.1 = P → p.2 = X.env.qual ++ "<lambda>") (hdef : defaultsOf params X.env = ([], [])) : PE X (.Lambda params body scope pos) (tLamV T X.env.qual X.env.cells params body scope) := by
  constructor
  intro pins s σ H Q I h
  exact lam_hold I TB hcode hm hu h.1 hdef (L.has (ok I)) fun f c' H1 s' I1 md => ⟨.ref f, H1, I1, rfl, h.2 f c' H1 md⟩
/-! the lambda called by the def that got it; what it raises is wished for at that def's slots -/
theorem pe_actW {X : Cx} {pins : List (Addr × Obj)} {σ : L2.St} {H : Hp} {s : Shared} {CXg : CXT} {Eg : XK} {Ng : List Str} {qg : Str} {sg : Scope} {g f c' : Addr} {cdg : Value} {params : Arguments} {body : Expr} {scope : Scope} {k i : Nat} {a : Str} {pn : List (Addr × Obj)} {xe : Value → Shared → Prop} {W : WX} {t : XK → TE} {p1 p2 : Pos}
    (I : Inv X pins σ H s) (L : LamS X.env.scope scope)
    (hbind : ∀ (q : Str) (cl : List (Str × Addr)) (pm cv ctv : Value), bindArgs (PySem.W.kla_fn "<lambda>" q params body scope cl pm cv ctv) ⟨[], []⟩ = pure [])
    (tk : Takes ((cxOf CXg X.prog X.w X.K X.mg X.base Ng qg sg g cdg X.A X.stack s H Eg).tr pn xe) W) (hr : Room (k + 1) (X.A.deeper (envOfC qg sg s.heap.objs.size g cdg)))
    (hbody : ∀ (A : Around) (outer : List Env) (s : Shared) (H : Hp) (E : XK), Room k (A.deeper (lamEnv X scope s.heap.objs.size f c')) → PE (lamCx X A outer s H E scope f c') body (t E))
    (hN : Ng[i]? = some a) (hv : Vis sg a) (hd : (a == ("__debug__" : Str)) = false := by decide) (hcd : (a == ("__classdict__" : Str)) = false := by decide) :
    PE ((cxOf CXg X.prog X.w X.K X.mg X.base Ng qg sg g cdg X.A X.stack s H Eg).tr pn xe) (.Call (.Name a p1) [] [] p2)
      (fun σZ HZ Q => σZ[i]? = some (some (.ref f)) ∧ HZ f = some (LamO X.env.qual X.env.cells params body scope c' f) ∧ HZ c' = some (CodeO c' (X.env.qual ++ "<lambda>")) ∧ t (fun cls d H' => W cls d σZ H') σ HZ Q) := by
  constructor
  rintro pinsZ sZ σZ HZ Q IZ ⟨hs, hf, hc, ht⟩
  refine wpAny_Call_Name_kw (thn ((pe_var (pos := p1) (i := i) hN hv hd hcd).run pinsZ sZ σZ HZ (fun v H1 => v = .ref f ∧ H1 = HZ) IZ ⟨.ref f, hs, rfl, rfl⟩) ?_)
  rintro u s1 ⟨v, H1, I1, r1, rfl, rfl⟩
  cases (show u = Value.ref f from r1)
  obtain ⟨pm, ctv, of1⟩ := (I1.hok f _ hf).1
  obtain ⟨oc, us, tt, oc1, oc2, oc3⟩ := (I1.hok c' _ hc).1
  refine PySem.W.callWith_F0 ⟨_, _, _, _, of1⟩ ?_
  refine wpAny_call (codeAny_mono (R := CR (L2.CX X.prog X.w) (envOfC qg sg s.heap.objs.size g cdg :: X.stack) X.prog X.w H1 s1 Q (fun cls d H' => W cls d σZ H')) ?_ ?_)
  · refine PySem.W.kla_callFunE hr.depth of1 rfl L.co L.gen rfl ⟨c', oc, us, tt, rfl, oc1, oc2, oc3⟩ ?_
    rw [show (([] : List Value) ++ []) = [] from rfl, hbind]
    refine wpAny_pure (wpAny_newFunctionEnv (fun y hy => (L.own y hy).2) (fun y hy => (nomatch hy)) (fun h₁ hns hsb => ⟨I1.nolimit.fresh _ hsb, ?_⟩) L.kind)
    have kp : ∀ b o, s1.heap.get? b = some o → h₁.get? b = some o := fun b o e => hsb.extBut b o (Nat.ne_of_lt (Heap.lt_size e)) (Heap.get?_push_of_some _ e)
    have J : Inv (lamCx X (X.A.deeper (envOfC qg sg s.heap.objs.size g cdg)) (envOfC qg sg s.heap.objs.size g cdg :: X.stack) s1 H1 (fun cls d H' => W cls d σZ H') scope f c') [] σ H1 { s1 with heap := h₁, toks := s1.toks + ([] : List (Str × Value)).length } :=
      lam_start2 I L I1.env0 hr.hd (show Un (frs X.stack) [] H H1 s.heap s1.heap from I1.base) hns kp
    refine PySem.W.kla_codeExpr (wpAny_mono ((hbody _ _ s1 H1 _ (hr.deeper _)).run [] _ _ H1 Q J ht) ?_ fun _ _ z => z)
    rintro v s' ⟨w', H', J', rv, q⟩
    exact ⟨w', H', J'.os, J'.bare, J'.base, J'.hok, rv, q⟩
  · rintro (er | fl) s' z
    · exact tk er s' (XE.of_call I1 (fun _ _ _ h => h) z)
    · cases fl <;> first | exact I1.after z | exact False.elim z
/-! a def that calls what it got in a try: TT tells what it makes of it -/
/-- one lambda's text, and its reading in the maker's slots -/
structure LamD where
  params : Arguments
  body : Expr
  scope : Scope
  t : XK → TE
def ActOk (X : Cx) (Ng : List Str) (x : Str) (sg : Scope) (g : Addr) (cdg : Value) (bg : List Stmt) (a : Str) (TT : (XK → Hp → VK → Prop) → Hp → VK → Prop) : Prop :=
  ∀ (f : Addr) (s : Shared) (H : Hp) (Q : VK) (Pf : Hp → Prop) (tl : XK → Hp → VK → Prop), (∀ H H', Ch [] H H' → Pf H → Pf H') →
    (∀ (W : WX) (pn : List (Addr × Obj)) (xe : Value → Shared → Prop) (p1 p2 : Pos), Takes ((cxOf C8.CX0 X.prog X.w X.K X.mg X.base Ng x sg g cdg X.A X.stack s H C8.E0).tr pn xe) W →
      PE ((cxOf C8.CX0 X.prog X.w X.K X.mg X.base Ng x sg g cdg X.A X.stack s H C8.E0).tr pn xe) (.Call (.Name a p1) [] [] p2) (fun σZ HZ Q => σZ[0]? = some (some (.ref f)) ∧ Pf HZ ∧ tl (fun cls d H' => W cls d σZ H') HZ Q)) →
    Pf H → TT tl H Q → ∃ t, PSs (cxOf C8.CX0 X.prog X.w X.K X.mg X.base Ng x sg g cdg X.A X.stack s H C8.E0) bg t ∧ t { nx := fun _ H' => Q .non H', rt := Q } (L2.start Ng [.ref f]) H
def tAct (q : Str) (cells : List (Str × Addr)) (ds : List LamD) (TT : (XK → Hp → VK → Prop) → Hp → VK → Prop) (ta : TE) : TE := fun σ H Q => ta σ H fun v H1 =>
  ∃ (f c' : Addr) (d : LamD), d ∈ ds ∧ v = .ref f ∧ H1 f = some (LamO q cells d.params d.body d.scope c' f) ∧ H1 c' = some (CodeO c' (q ++ "<lambda>")) ∧ TT (fun E H' Q' => d.t E σ H' Q') H1 Q
theorem pe_actG {X : Cx} {TT : (XK → Hp → VK → Prop) → Hp → VK → Prop} {x a : Str} {g : Addr} {k : Nat} {pg : Arguments} {bg : List Stmt} {sg : Scope} {dV kV doc pm cdv ct oc : Value} {an od : Option Addr} {osl : Array (Option Value)} {Ng : List Str} {ds : List LamD} {e : Expr} {ta : TE} {p pos : Pos}
    (hg : Gl X x) (hm : X.mg x = some (.ref g)) (hk : PySem.W.keepIn X.K (.ref g) = true) (lk : X.K.lookup g = some ⟨oc, od, .func (PySem.W.fnOf x x pg bg sg dV kV doc pm an cdv ct), osl⟩) (hcg : PySem.W.codeIn X.K cdv x = true)
    (hb : L2.Binds X.K (PySem.W.fnOf x x pg bg sg dV kV doc pm an cdv ct) [a] []) (Sg : FnScope Ng [a] sg) (hNg : Ng[0]? = some a) (hva : Vis sg a) (hG : ActOk X Ng x sg g cdv bg a TT) (hr : Room (k + 2) X.A)
    (hds : ∀ d ∈ ds, LamS X.env.scope d.scope ∧ (∀ (q : Str) (cl : List (Str × Addr)) (pm cv ctv : Value), bindArgs (PySem.W.kla_fn "<lambda>" q d.params d.body d.scope cl pm cv ctv) ⟨[], []⟩ = pure []) ∧
      ∀ (A : Around) (outer : List Env) (s : Shared) (H : Hp) (E : XK) (f c' : Addr), Room k (A.deeper (lamEnv X d.scope s.heap.objs.size f c')) → PE (lamCx X A outer s H E d.scope f c') d.body (d.t E))
    (he : PE X e ta) (hst : starEach [e] X.env = (false, eval e X.env) :: starEach [] X.env := by rfl) (hpl : (backTo pos (starEach [] X.env)).any (·.1) = false := by rfl)
    (hdb : (x == ("__debug__" : Str)) = false := by decide) (hd : (a == ("__debug__" : Str)) = false := by decide) (hcd : (a == ("__classdict__" : Str)) = false := by decide) : PE X (.Call (.Name x p) [e] [] pos) (tAct X.env.qual X.env.cells ds TT ta) := by
  constructor
  intro pins s σ H Q I h
  refine wpAny_Call_Name_kw (ld_glob I hg hm ?_ hdb)
  refine PySem.W.callWith_K (h₀ := X.base) I.ok.mod.kin hk ?_ hst hpl
  rw [hst]
  show wpAny _ _ (spliced ((false, eval e X.env) :: backTo pos (starEach [] X.env))) _ _ s
  refine Calls.spliced_cons (thn (he.run pins s σ H _ I h) ?_)
  rintro u s1 ⟨v, H1, I1, r1, f, c', d, hd1, rfl, lf, lc, tt⟩
  cases (show u = Value.ref f from r1)
  obtain ⟨L, bn, bd⟩ := hds d hd1
  refine Calls.spliced_nil ⟨I1.kIn, ?_⟩
  refine wpAny_call (codeAny_mono (R := CR C8.CX0 X.stack X.prog X.w H1 s1 Q C8.E0) ?_ ?_)
  · refine run_ofS (N := Ng) (ps := [a]) (us := [.ref f]) (vs := [.ref f]) lk hcg Sg hr I1.env0 (hb s1 [.ref f] I1.kIn rfl) (.cons rfl .nil) rfl fun hr' => ?_
    refine hG f s1 H1 Q (fun HZ => HZ f = some (LamO X.env.qual X.env.cells d.params d.body d.scope c' f) ∧ HZ c' = some (CodeO c' (X.env.qual ++ "<lambda>"))) (fun E H' Q' => d.t E σ H' Q') (fun _ _ ch z => ⟨ch _ _ z.1 List.not_mem_nil, ch _ _ z.2 List.not_mem_nil⟩) ?_ ⟨lf, lc⟩ tt
    intro W pn xe p1 p2 tk
    have z := pe_actW (i := 0) (t := d.t) (p1 := p1) (p2 := p2) I1 L bn tk hr' (fun A outer s H E hr2 => bd A outer s H E f c' hr2) hNg hva hd hcd
    exact ⟨fun pins s σ H Q I ⟨h1, ⟨h2, h3⟩, h4⟩ => z.run pins s σ H Q I ⟨h1, h2, h3, h4⟩⟩
  · rintro (er | fl) s' z
    · exact (show False from z).elim
    · cases fl <;> first | exact I1.after z | exact False.elim z
end AF
/-! lambdas beside what stands; the table of the law's code looked at *-/
namespace AF
open PySem PySem.Spec PyProof.Rows L2 LamX
/-- what may be changed at all -/
def softO : HO → Bool
  | .lst _ => true
  | .tup _ => true
  | .dK _ => true
  | .ins _ _ _ => true
  | .own _ => true
  | .xd _ => true
  | _ => false
def tblO : HO → Bool
  | .tbl _ => true
  | _ => false
def Soft (H : Hp) (M : Addr → Prop) : Prop := ∀ b o, H b = some o → M b → softO o = true
theorem soft0 {H : Hp} : Soft H (fun _ => False) := fun _ _ _ h => h.elim
def Mu (l : List Ent) (b : Addr) : Prop := ∃ e ∈ l, e.2.2 = true ∧ e.1 = b
def softL (l : List Ent) : Bool := l.all fun e => (!e.2.2 || softO e.2.1) && !tblO e.2.1
section
variable {H0 H H1 : Hp} {M : Addr → Prop} {l : List Ent} {T : List (Addr × Str)} {K : PySem.W.Frag} {a : Addr} {xs : List V}
theorem Tabs.along (t : Tabs T H0) (S : Sh H0 M H l) (sf : Soft H0 M) : Tabs T H := fun p hp => by
  obtain ⟨ps, h1, h2, h3⟩ := t p hp
  refine ⟨ps, S.fr _ _ h1 fun z => ?_, h2, fun pos cv hc => ?_⟩
  · have := sf _ _ h1 z; cases this
  · obtain ⟨c, e1, e2⟩ := h3 pos cv hc
    refine ⟨c, e1, S.fr _ _ e2 fun z => ?_⟩
    have := sf _ _ e2 z
    unfold CodeO at this; cases this
theorem SqF.along (h : SqF K H0 a xs) (S : Sh H0 M H l) (sf : Soft H0 M) : SqF K H a xs := by
  rcases h with ⟨o, e⟩ | h
  · exact .inl ⟨o, S.fr _ _ e fun z => by have := sf _ _ e z; cases this⟩
  · exact .inr h
theorem SqF.extN (h : SqF K H a xs) (e : ExtN H H1) : SqF K H1 a xs := by
  rcases h with ⟨o, z⟩ | h
  · exact .inl ⟨o, e _ _ z fun ps y => by cases y⟩
  · exact .inr h
/-- begun anew -/
theorem Sh.again (S : Sh H0 M H l) : Sh H (Mu l) H l := ⟨fun _ _ h _ => h, S.has, S.ap, fun e he hm => .inl ⟨e, he, hm, rfl⟩⟩
theorem soft_again (S : Sh H0 M H l) (hl : softL l = true) : Soft H (Mu l) := fun b o hb ⟨e, he, hm, hb'⟩ => by
  have h1 := List.all_eq_true.mp hl e he
  have h2 := S.has e he
  rw [hb', hb] at h2
  cases h2
  rw [hm] at h1
  cases q : softO e.2.1 with
  | true => rfl
  | false => rw [q] at h1; cases h1
variable {q : Str} {cells : List (Str × Addr)} {params : Arguments} {body : Expr} {scope : Scope} {f c' : Addr}
theorem Sh.lam (S : Sh H0 M H l) (hl : softL l = true) (md : LamMade T q cells params body scope H H1 f c') : Sh H1 (Mu l) H1 ((f, LamO q cells params body scope c' f, false) :: (c', CodeO c' (q ++ "<lambda>"), false) :: l) := by
  have has : ∀ e, e ∈ l → H1 e.1 = some e.2.1 := fun e he => md.ext _ _ (S.has e he) fun ps z => by
    have h1 := List.all_eq_true.mp hl e he
    rw [z] at h1
    cases h2 : e.2.2 <;> rw [h2] at h1 <;> cases h1
  have soft : ∀ e, e ∈ l → e.2.2 = true → softO e.2.1 = true := fun e he hm => by
    have h1 := (Bool.and_eq_true_iff.mp (List.all_eq_true.mp hl e he)).1
    rw [hm] at h1
    cases q : softO e.2.1 with
    | true => rfl
    | false => rw [q] at h1; cases h1
  have S1 : Sh H1 (Mu l) H1 l := ⟨fun _ _ h _ => h, has, S.ap, fun e he hm => .inl ⟨e, he, hm, rfl⟩⟩
  have S2 : Sh H1 (Mu l) H1 ((c', CodeO c' (q ++ "<lambda>"), false) :: l) := S1.know md.code fun e he hm z => by
    have h1 := has e he
    rw [← z, md.code] at h1
    have h2 := soft e he hm
    rw [← Option.some.inj h1] at h2
    unfold CodeO at h2; cases h2
  refine S2.know md.lam fun e he hm z => ?_
  rcases List.mem_cons.mp he with h | h
  · rw [h] at hm; cases hm
  · have h1 := S.has e h
    rw [← z, md.new] at h1; cases h1
theorem Soft.lam (S : Sh H0 M H l) (hl : softL l = true) (md : LamMade T q cells params body scope H H1 f c') : Soft H1 (Mu l) := fun b o hb ⟨e, he, hm, hb'⟩ => by
  have S1 := S.lam hl md
  have h2 := S1.has e (List.mem_cons_of_mem _ (List.mem_cons_of_mem _ he))
  rw [hb', hb] at h2
  cases h2
  have h1 := (Bool.and_eq_true_iff.mp (List.all_eq_true.mp hl e he)).1
  rw [hm] at h1
  cases q : softO e.2.1 with
  | true => rfl
  | false => rw [q] at h1; cases h1
/-- lambda: body, all told anew behind it -/
theorem g_lam {σ : L2.St} {Q : VK} (S : Sh H0 M H l) (sf : Soft H0 M) (t : Tabs T H0) (hF : SqF K H0 a xs) (hl : softL l = true)
    (k : ∀ f c' H1, Sh H1 (Mu l) H1 ((f, LamO q cells params body scope c' f, false) :: (c', CodeO c' (q ++ "<lambda>"), false) :: l) → Soft H1 (Mu l) → Tabs T H1 → SqF K H1 a xs → Q (.ref f) H1) : tLamV T q cells params body scope σ H Q :=
  ⟨Tabs.along t S sf, fun f c' H1 md => k f c' H1 (S.lam hl md) (Soft.lam S hl md) md.tabs ((hF.along S sf).extN md.ext)⟩
end
def kAct (q : Str) (cells : List (Str × Addr)) (ds : List LamD) (TT : (XK → Hp → VK → Prop) → Hp → VK → Prop) (σ : L2.St) (Q : VK) (v : V) (H1 : Hp) : Prop :=
  ∃ (f c' : Addr) (d : LamD), d ∈ ds ∧ v = .ref f ∧ H1 f = some (LamO q cells d.params d.body d.scope c' f) ∧ H1 c' = some (CodeO c' (q ++ "<lambda>")) ∧ TT (fun E H' Q' => d.t E σ H' Q') H1 Q
instance {q : Str} {cells : List (Str × Addr)} {ds : List LamD} {TT : (XK → Hp → VK → Prop) → Hp → VK → Prop} {ta : TE} {σ : L2.St} {H : Hp} {Q : VK} : Step (tAct q cells ds TT ta σ H Q) (ta σ H (kAct q cells ds TT σ Q)) := ⟨fun h => h⟩
/-! the head, its table looked at -/
def lawC (K : PySem.W.Frag) (x : Str) : Addr := match cdOf K (He.ga K x) with
  | .ref c => c
  | _ => 0
def lawP (K : PySem.W.Frag) (x : Str) : Addr := match K.lookup (lawC K x) with
  | some ⟨_, _, .fields vs, _⟩ => (match (vs[11]? : Option Value) with
    | some (.ref p) => p
    | _ => 0)
  | _ => 0
def isTab : Option Obj → Bool
  | some ⟨.none, .none, .fields ⟨[]⟩, ⟨[]⟩⟩ => true
  | _ => false
theorem isTab_ok {o : Option Obj} (h : isTab o = true) : o = some oTab := by
  unfold isTab at h
  split at h
  · rfl
  · cases h
def lawB (K : PySem.W.Frag) (x : Str) : Bool := PySem.W.codeHdIn K (lawC K x) (lawP K x) && ((K.lookup (lawP K x)).isNone && (match cdOf K (He.ga K x) with | .ref _ => true | _ => false))
section
open He
open PySem.W (Frag OpenRow)
def lookTR (n : Nat) (fs : Frag → List Bool) (ds : List DA) (ts : List Tab) (g : Addr → Option Obj) : SeenT := lookT fs ds ts (frG g (PySem.cStatics :: asP g n [mainGlobals] [mainGlobals]))
def hookR (n : Nat) (fs : Frag → List Bool) (ds : List DA) (ts : List Tab) : PySem.W.Hook where
  α := SeenT
  obs := fun s => lookTR n fs ds ts s.heap.get?
  val := fun w => lookTW ds ts w
  says := fun w h => ∃ K : Frag, K.In h ∧ TellsT fs ds ts w K
  of := fun _ _ e => ⟨_, frG_in, e⟩
  keeps := fun _ _ _ ⟨K, hK, c⟩ k => ⟨K, Frag.In.keeps hK k, c⟩
theorem lookTR_eq {n : Nat} {fs : Frag → List Bool} {ds : List DA} {ts : List Tab} {g : Addr → Option Obj} {s : Shared} (h : ∀ a, g a = s.heap.get? a) : lookTR n fs ds ts g = (hookR n fs ds ts).obs s := by
  have e : g = s.heap.get? := funext h
  rw [e]
  rfl
/-- .. and the law's table is empty -/
def lookTL (n : Nat) (x : Str) (fs : Frag → List Bool) (ds : List DA) (ts : List Tab) (g : Addr → Option Obj) : SeenT × Bool :=
  (lookTR n fs ds ts g, (fun K : Frag => lawB K x && isTab (g (lawP K x))) (frG g (PySem.cStatics :: asP g n [mainGlobals] [mainGlobals])))
def hookL (n : Nat) (x : Str) (fs : Frag → List Bool) (ds : List DA) (ts : List Tab) : PySem.W.Hook where
  α := SeenT × Bool
  obs := fun s => lookTL n x fs ds ts s.heap.get?
  val := fun w => (lookTW ds ts w, true)
  says := fun w h => ∃ K : Frag, K.In h ∧ TellsT fs ds ts w K ∧ lawB K x = true ∧ h.get? (lawP K x) = some oTab
  of := fun _ _ e => by
    obtain ⟨e1, e2⟩ := Prod.mk.inj e
    obtain ⟨e3, e4⟩ := Bool.and_eq_true_iff.mp e2
    exact ⟨_, frG_in, e1, e3, isTab_ok e4⟩
  keeps := fun _ _ _ ⟨K, hK, c, b, t⟩ k => ⟨K, Frag.In.keeps hK k, c, b, k _ _ t⟩
theorem lookTL_eq {n : Nat} {x : Str} {fs : Frag → List Bool} {ds : List DA} {ts : List Tab} {g : Addr → Option Obj} {s : Shared} (h : ∀ a, g a = s.heap.get? a) : lookTL n x fs ds ts g = (hookL n x fs ds ts).obs s := by
  have e : g = s.heap.get? := funext h
  rw [e]
  rfl
end
theorem lawB_ok {K : PySem.W.Frag} {x : Str} (h : lawB K x = true) : PySem.W.codeHdIn K (lawC K x) (lawP K x) = true ∧ K.lookup (lawP K x) = none ∧ cdOf K (He.ga K x) = .ref (lawC K x) := by
  obtain ⟨h1, h⟩ := Bool.and_eq_true_iff.mp h
  obtain ⟨h2, h3⟩ := Bool.and_eq_true_iff.mp h
  refine ⟨h1, Option.isNone_iff_eq_none.mp h2, ?_⟩
  unfold lawC
  split at h3
  · rename_i c e
    rw [e]
  · cases h3
end AF
/-! calls in lambdas that raise: a def that keeps the error's value by repr -/
namespace AF
open PySem PySem.Spec PyProof.Rows L2 LamX
/-- what a call is to raise: one of the classes, with its value -/
def Wish (cs : List (Addr × Str)) (Q : VK) : XK := fun cls d H' => ∃ (C dd : Addr) (v : V) (z kw : Str), cls = .ref C ∧ d = some dd ∧ H' dd = some (.xd [("value", v)]) ∧ RepO H' v z ∧ (C, kw) ∈ cs ∧
  ∀ p H'', H' p = none → Ch [] H' H'' → H'' p = some (.lst [.str kw, .str z, .bl true]) → Q (.ref p) H''
def TTr (cs : List (Addr × Str)) : (XK → Hp → VK → Prop) → Hp → VK → Prop := fun tl H Q => ∀ p H1 (E : XK) (Q' : VK), H p = none → Ch [] H H1 → H1 p = some (.lst []) → (∀ cls d H', Wish cs Q cls d H' → E cls d H') → tl E H1 Q'
/-- all told goes along with a longer heap, tables aside -/
theorem Sh.extN {H0 H H1 : Hp} {M : Addr → Prop} {l : List Ent} (S : Sh H0 M H l) (hl : softL l = true) (e : ExtN H H1) : Sh H1 (Mu l) H1 l := by
  refine ⟨fun _ _ h _ => h, fun e1 he => e _ _ (S.has e1 he) fun ps z => ?_, S.ap, fun e1 he hm => .inl ⟨e1, he, hm, rfl⟩⟩
  have h1 := (Bool.and_eq_true_iff.mp (List.all_eq_true.mp hl e1 he)).2
  rw [z] at h1
  cases h1
theorem soft_extN {H0 H H1 : Hp} {M : Addr → Prop} {l : List Ent} (S : Sh H0 M H l) (hl : softL l = true) (e : ExtN H H1) : Soft H1 (Mu l) := soft_again (S.extN hl e) hl
end AF
/-! a def of the program's called with a lambda *-/
namespace AF
open PySem PySem.Spec PyProof.Rows L2 LamX
theorem pe_act1 {X : Cx} {TT : (XK → Hp → VK → Prop) → Hp → VK → Prop} {x a : Str} {g : Addr} {k : Nat} {pg : Arguments} {bg : List Stmt} {sg : Scope} {fd : FuncData} {Ng : List Str} {params : Arguments} {body : Expr} {scope : Scope} {t : XK → TE} {ta : TE} {p pos lpos : Pos}
    (F : FunD X.K x x pg bg sg [] [] g fd) (b : Binds X.K fd [a] []) (Sg : FnScope Ng [a] sg) (hNg : Ng[0]? = some a) (hva : Vis sg a) (hG : ∀ cdg, ActOk X Ng x sg g cdg bg a TT) (hr : Room (k + 2) X.A) (hg : Gl X x) (hm : X.mg x = some (.ref g))
    (L : LamS X.env.scope scope) (hbind : ∀ (q : Str) (cl : List (Str × Addr)) (pm cv ctv : Value), bindArgs (PySem.W.kla_fn "<lambda>" q params body scope cl pm cv ctv) ⟨[], []⟩ = pure [])
    (hbody : ∀ (A : Around) (outer : List Env) (s : Shared) (H : Hp) (E : XK) (f c' : Addr), Room k (A.deeper (lamEnv X scope s.heap.objs.size f c')) → PE (lamCx X A outer s H E scope f c') body (t E))
    (he : PE X (.Lambda params body scope lpos) ta)
    (hdb : (x == ("__debug__" : Str)) = false := by decide) (hd : (a == ("__debug__" : Str)) = false := by decide) (hcd : (a == ("__classdict__" : Str)) = false := by decide) :
    PE X (.Call (.Name x p) [.Lambda params body scope lpos] [] pos) (tAct X.env.qual X.env.cells [⟨params, body, scope, t⟩] TT ta) := by
  obtain ⟨oc, od, dV, kV, doc, pm, an, cdv, ct, osl, rfl, lk, hcd', _, _⟩ := F.ex
  refine pe_actG hg hm F.kp lk hcd' b Sg hNg hva (hG cdv) hr (fun d hd' => ?_) he (by rfl) (by rfl) hdb hd hcd
  rw [List.mem_singleton] at hd'
  subst hd'
  exact ⟨L, hbind, fun A outer s H E f c' hr2 => hbody A outer s H E f c' hr2⟩
/-- the tables of the defs that make lambdas -/
def lamT (K : PySem.W.Frag) (xs : List Str) : List (Addr × Str) := xs.map fun x => (lawP K x, (x ++ ".<locals>.") ++ "<lambda>")
def lamB (K : PySem.W.Frag) (xs : List Str) : Bool := decide ((xs.map (lawP K)).Nodup)
theorem lamT_u {K : PySem.W.Frag} : ∀ {xs : List Str}, (xs.map (lawP K)).Nodup → ∀ {x : Str}, x ∈ xs → ∀ p ∈ lamT K xs, p.1 = lawP K x → p.2 = (x ++ ".<locals>.") ++ "<lambda>"
  | [], _, _, h, _, _, _ => nomatch h
  | y :: ys, nd, x, h, p, hp, e => by
    obtain ⟨n1, n2⟩ := List.nodup_cons.mp nd
    rcases List.mem_cons.mp hp with hp | hp
    · rw [hp] at e ⊢
      have e1 : lawP K y = lawP K x := e
      rcases List.mem_cons.mp h with h | h
      · rw [h]
      · exact absurd (e1 ▸ List.mem_map_of_mem h) n1
    · rcases List.mem_cons.mp h with h | h
      · obtain ⟨z, hz, rfl⟩ := List.mem_map.mp hp
        have e1 : lawP K z = lawP K x := e
        rw [h] at e1
        exact absurd (e1 ▸ List.mem_map_of_mem hz) n1
      · exact lamT_u n2 h p hp e
theorem lamT_m {K : PySem.W.Frag} {xs : List Str} {x : Str} (h : x ∈ xs) : (lawP K x, (x ++ ".<locals>.") ++ "<lambda>") ∈ lamT K xs := List.mem_map_of_mem (f := fun x => (lawP K x, (x ++ ".<locals>.") ++ "<lambda>")) h
/-- all that one lambda's making wants, in one -/
structure Mkr (K : PySem.W.Frag) (mg : Str → Option Value) (base : Heap) (xs : List Str) (x : Str) : Prop where
  tb : TabB base mg (lawC K x) (lawP K x)
  cd : cdOf K (He.ga K x) = .ref (lawC K x)
  mem : x ∈ xs
  nd : (xs.map (lawP K)).Nodup
theorem pe_lam1 {X : Cx} {xs : List Str} {x : Str} {params : Arguments} {body : Expr} {scope : Scope} {pos : Pos} {cdv : Value} (D : Mkr X.K X.mg X.base xs x) (hc : cdOf X.K (He.ga X.K x) = cdv) (he : X.env.code = cdv) (hq : X.env.qual = x ++ ".<locals>.") (ok : ∀ {pins σ H s}, Inv X pins σ H s → X.Ok) (L : LamS X.env.scope scope)
    (hdef : defaultsOf params X.env = ([], [])) : PE X (.Lambda params body scope pos) (tLamV (lamT X.K xs) X.env.qual X.env.cells params body scope) :=
  pe_lamV D.tb (he.trans (hc.symm.trans D.cd)) ok L (by rw [hq]; exact lamT_m D.mem) (by rw [hq]; exact lamT_u D.nd D.mem) hdef
mutual
theorem Pv.extN {H H' : Hp} (c : ExtN H H') : ∀ (d : PyData) (v : V), Pv H v d → Pv H' v d
  | .none, _, h => by cases h; exact .non
  | .bool b, _, h => by cases h; exact .bl b
  | .int i, _, h => by cases h; exact .int i
  | .str x, _, h => by cases h; exact .str x
  | .list ds, _, h => by cases h with | lst e r => exact .lst (c _ _ e fun _ z => nomatch z) (PvAll.extN c ds _ r)
  | .tuple ds, _, h => by cases h with | tup e r => exact .tup (c _ _ e fun _ z => nomatch z) (PvAll.extN c ds _ r)
  | .dict ps, _, h => by cases h with
    | d0 e => exact .d0 (c _ _ e fun _ z => nomatch z)
    | d1 e => exact .d1 (c _ _ e fun _ z => nomatch z)
theorem PvAll.extN {H H' : Hp} (c : ExtN H H') : ∀ (ds : List PyData) (vs : List V), PvAll H vs ds → PvAll H' vs ds
  | [], _, h => by cases h; exact .nil
  | d :: ds, _, h => by cases h with | cons k r => exact .cons (Pv.extN c d _ k) (PvAll.extN c ds _ r)
end
theorem RepO.extN {H H' : Hp} {v : V} {z : Str} (h : RepO H v z) (c : ExtN H H') : RepO H' v z := by
  cases h with
  | non => exact .non
  | bl b => exact .bl b
  | int h => exact .int h
  | str h => exact .str h
  | box h s => exact .box (h.extN c) s
theorem Ch.toN {H H' : Hp} (c : Ch [] H H') : ExtN H H' := ExtN.of fun b o e => c b o e List.not_mem_nil
theorem Tabs.ch {T : List (Addr × Str)} {H H' : Hp} (t : Tabs T H) (c : Ch [] H H') : Tabs T H' := t.ext fun b o e => c b o e List.not_mem_nil
/-- what stood is not what is new -/
theorem ExtN.old {H H' : Hp} {p : Addr} (c : ExtN H H') (n : H' p = none) : ∀ o, H p = some o → ∃ ps, o = .tbl ps := fun o e => by
  cases o with
  | tbl ps => exact ⟨ps, rfl⟩
  | _ =>
    have := c _ _ e fun ps z => nomatch z
    rw [n] at this; cases this
theorem ne_tblO {l : List Ent} (hl : softL l = true) {e : Ent} (he : e ∈ l) (ps : Array Value) : e.2.1 ≠ .tbl ps := fun z => by
  have h1 := (Bool.and_eq_true_iff.mp (List.all_eq_true.mp hl e he)).2
  rw [z] at h1
  cases h1
/-- .. and what a def has made beside tables -/
theorem Sh.extK {H0 H H1 : Hp} {M : Addr → Prop} {l : List Ent} {p : Addr} {o : HO} (S : Sh H0 M H l) (hl : softL l = true) (e : ExtN H H1) (old : ∀ o, H p = some o → ∃ ps, o = .tbl ps) (h : H1 p = some o) : Sh H1 (Mu l) H1 ((p, o, false) :: l) :=
  (S.extN hl e).know h fun x hx _ z => by
    obtain ⟨ps, y⟩ := old _ (by rw [z]; exact S.has x hx)
    exact ne_tblO hl hx ps y
/-- a def of the program's called with a lambda that raises -/
theorem g_actr {H0 H : Hp} {M : Addr → Prop} {l : List Ent} {T : List (Addr × Str)} {q : Str} {cells : List (Str × Addr)} {params : Arguments} {body : Expr} {scope : Scope} {t : XK → TE} {cs : List (Addr × Str)} {σ : L2.St} {Q : VK} (S : Sh H0 M H l) (sf : Soft H0 M) (tb : Tabs T H0) (hl : softL l = true)
    (k : ∀ (H1 H2 : Hp) (E : XK) (Q' : VK), ExtN H H1 → Soft H1 (Mu l) → Tabs T H1 → ExtN H H2 → Sh H1 (Mu l) H2 l → (∀ (C dd : Addr) (v : V) (z kw : Str) (H3 : Hp), Ch [] H2 H3 → H3 dd = some (.xd [("value", v)]) → RepO H3 v z → (C, kw) ∈ cs →
      (∀ p H4, ExtN H H4 → Sh H1 (Mu l) H4 ((p, .lst [.str kw, .str z, .bl true], true) :: l) → Q (.ref p) H4) → E (.ref C) (some dd) H3) → t E σ H2 Q') :
    tLamV T q cells params body scope σ H (kAct q cells [⟨params, body, scope, t⟩] (TTr cs) σ Q) := by
  refine ⟨Tabs.along tb S sf, fun lf lc H1 md => ⟨lf, lc, _, List.mem_singleton_self _, rfl, md.lam, md.code, ?_⟩⟩
  intro p H2 E Q' hn ch hp hw
  have S1 := S.extN hl md.ext
  refine k H1 H2 E Q' md.ext (soft_again S1 hl) md.tabs (md.ext.trans (Ch.toN ch)) (S1.ch0 ch) fun C dd v z kw H3 c3 hx hz hm fin => ?_
  refine hw _ _ _ ⟨C, dd, v, z, kw, rfl, rfl, hx, hz, hm, fun p4 H4 hn4 c4 hp4 => ?_⟩
  exact fin p4 H4 ((md.ext.trans (Ch.toN ch)).trans ((Ch.toN c3).trans (Ch.toN c4))) ((((S1.ch0 ch).ch0 c3)).add c4 hn4 hp4)
/-- two ways to one value -/
theorem g_ivB {b : Bool} {ta tb : VK → Prop} {v : V} {H : Hp} {Q : VK} (h1 : b = true → ∀ Q : VK, Q v H → ta Q) (h2 : b = false → ∀ Q : VK, Q v H → tb Q) (q : Q v H) : if b = true then ta Q else tb Q := by
  cases b with
  | true => rw [if_pos rfl]; exact h1 rfl Q q
  | false => rw [if_neg (by decide)]; exact h2 rfl Q q
/-- two ways that come together -/
theorem g_meetB {b : Bool} {t u : TS} {nx : L2.St → Hp → Prop} {rt : VK} {bk ct : L2.St → Hp → Prop} {σ : L2.St} {H : Hp} (W : L2.St → Hp → Prop) (h1 : b = true → ∀ nx' : L2.St → Hp → Prop, (∀ σ H, W σ H → nx' σ H) → t ⟨nx', rt, bk, ct⟩ σ H) (h2 : b = false → ∀ nx' : L2.St → Hp → Prop, (∀ σ H, W σ H → nx' σ H) → u ⟨nx', rt, bk, ct⟩ σ H)
    (q : ∀ σ H, W σ H → nx σ H) : if b = true then t ⟨nx, rt, bk, ct⟩ σ H else u ⟨nx, rt, bk, ct⟩ σ H := by
  cases b with
  | true => rw [if_pos rfl]; exact h1 rfl nx q
  | false => rw [if_neg (by decide)]; exact h2 rfl nx q
/-- two statements, then the rest -/
theorem g_cut2 {t1 t2 u : TS} {nx : L2.St → Hp → Prop} {rt : VK} {bk ct : L2.St → Hp → Prop} {σ : L2.St} {H : Hp} (P : L2.St → Hp → Prop) (a : ∀ nx' : L2.St → Hp → Prop, (∀ σ H, P σ H → nx' σ H) → tSeq t1 t2 ⟨nx', rt, bk, ct⟩ σ H) (b : ∀ σ H, P σ H → u ⟨nx, rt, bk, ct⟩ σ H) :
    tSeq t1 (tSeq t2 u) ⟨nx, rt, bk, ct⟩ σ H := a (fun σ H => u ⟨nx, rt, bk, ct⟩ σ H) b
/-! the head, several tables looked at -/
def lamC (K : PySem.W.Frag) (xs : List Str) : List (Addr × Addr) := xs.map fun x => (lawC K x, lawP K x)
theorem tabs0 {K : PySem.W.Frag} {xs : List Str} {H : Hp} (h : ∀ p ∈ lamC K xs, H p.2 = some (.tbl #[])) : Tabs (lamT K xs) H := fun p hp => by
  obtain ⟨x, hx, rfl⟩ := List.mem_map.mp hp
  exact TabS.nil (h (lawC K x, lawP K x) (List.mem_map_of_mem (f := fun x => (lawC K x, lawP K x)) hx))
theorem mkr_of {K : PySem.W.Frag} {mg : Str → Option Value} {base : Heap} {xs : List Str} {x : Str} (hT : ∀ p ∈ lamC K xs, TabB base mg p.1 p.2) (hb : ∀ x ∈ xs, lawB K x = true) (nd : (xs.map (lawP K)).Nodup) (hx : x ∈ xs) : Mkr K mg base xs x :=
  ⟨hT (lawC K x, lawP K x) (List.mem_map_of_mem (f := fun x => (lawC K x, lawP K x)) hx), (lawB_ok (hb x hx)).2.2, hx, nd⟩
theorem lamC_C {K : PySem.W.Frag} {h : Heap} {xs : List Str} (KX : K.In h) (hb : ∀ x ∈ xs, lawB K x = true) : ∀ p ∈ lamC K xs, PySem.W.CodeHd h p.1 p.2 := fun p hp => by
  obtain ⟨x, hx, rfl⟩ := List.mem_map.mp hp
  exact PySem.W.codeHd_of_K KX (lawB_ok (hb x hx)).1
theorem lamC_n {K : PySem.W.Frag} {xs : List Str} (hb : ∀ x ∈ xs, lawB K x = true) : ∀ p ∈ lamC K xs, K.lookup p.2 = none := fun p hp => by
  obtain ⟨x, hx, rfl⟩ := List.mem_map.mp hp
  exact (lawB_ok (hb x hx)).2.1
section
open He
open PySem.W (Frag OpenRow)
def lookTM (n : Nat) (xs : List Str) (fs : Frag → List Bool) (ds : List DA) (ts : List Tab) (g : Addr → Option Obj) : SeenT × Bool :=
  (lookTR n fs ds ts g, (fun K : Frag => xs.all fun x => lawB K x && isTab (g (lawP K x))) (frG g (PySem.cStatics :: asP g n [mainGlobals] [mainGlobals])))
def hookM (n : Nat) (xs : List Str) (fs : Frag → List Bool) (ds : List DA) (ts : List Tab) : PySem.W.Hook where
  α := SeenT × Bool
  obs := fun s => lookTM n xs fs ds ts s.heap.get?
  val := fun w => (lookTW ds ts w, true)
  says := fun w h => ∃ K : Frag, K.In h ∧ TellsT fs ds ts w K ∧ ∀ x ∈ xs, lawB K x = true ∧ h.get? (lawP K x) = some oTab
  of := fun _ _ e => by
    obtain ⟨e1, e2⟩ := Prod.mk.inj e
    exact ⟨_, frG_in, e1, fun x hx => by
      obtain ⟨e3, e4⟩ := Bool.and_eq_true_iff.mp (List.all_eq_true.mp e2 x hx)
      exact ⟨e3, isTab_ok e4⟩⟩
  keeps := fun _ _ _ ⟨K, hK, c, b⟩ k => ⟨K, Frag.In.keeps hK k, c, fun x hx => ⟨(b x hx).1, k _ _ (b x hx).2⟩⟩
theorem lookTM_eq {n : Nat} {xs : List Str} {fs : Frag → List Bool} {ds : List DA} {ts : List Tab} {g : Addr → Option Obj} {s : Shared} (h : ∀ a, g a = s.heap.get? a) : lookTM n xs fs ds ts g = (hookM n xs fs ds ts).obs s := by
  have e : g = s.heap.get? := funext h
  rw [e]
  rfl
end
end AF
namespace K1
open PySem PySem.Spec PyProof.Rows L2 AF
open C8 (pe_gc)
def top (i : Nat) : Stmt := PySem.Challenge.pw_agedfiles_k07_rules_told.main.body.getD i (.Pass ⟨0, 0, 0, 0⟩)
abbrev s_wall : Stmt := top 0
theorem c_wall : FnScope ["k"] ["k"] (defScope s_wall) := ⟨rfl, rfl, rfl, by decide +kernel, rfl, by decide +kernel, by decide +kernel⟩
abbrev s_NoMoment___init__ : Stmt := inClass (top 5) 0
theorem c_NoMoment___init__ : FnScope ["self", "value"] ["self", "value"] (defScope s_NoMoment___init__) := ⟨rfl, rfl, rfl, by decide +kernel, rfl, by decide +kernel, by decide +kernel⟩
abbrev s_NoRule___init__ : Stmt := inClass (top 6) 0
theorem c_NoRule___init__ : FnScope ["self", "value"] ["self", "value"] (defScope s_NoRule___init__) := ⟨rfl, rfl, rfl, by decide +kernel, rfl, by decide +kernel, by decide +kernel⟩
abbrev s_NoFile___init__ : Stmt := inClass (top 7) 0
theorem c_NoFile___init__ : FnScope ["self", "value"] ["self", "value"] (defScope s_NoFile___init__) := ⟨rfl, rfl, rfl, by decide +kernel, rfl, by decide +kernel, by decide +kernel⟩
abbrev s_NoDeed___init__ : Stmt := inClass (top 8) 0
theorem c_NoDeed___init__ : FnScope ["self", "value"] ["self", "value"] (defScope s_NoDeed___init__) := ⟨rfl, rfl, rfl, by decide +kernel, rfl, by decide +kernel, by decide +kernel⟩
abbrev s_NoMark___init__ : Stmt := inClass (top 9) 0
theorem c_NoMark___init__ : FnScope ["self", "value"] ["self", "value"] (defScope s_NoMark___init__) := ⟨rfl, rfl, rfl, by decide +kernel, rfl, by decide +kernel, by decide +kernel⟩
abbrev s_is_whole : Stmt := top 11
theorem c_is_whole : FnScope ["value"] ["value"] (defScope s_is_whole) := ⟨rfl, rfl, rfl, by decide +kernel, rfl, by decide +kernel, by decide +kernel⟩
abbrev s_is_time : Stmt := top 12
theorem c_is_time : FnScope ["value"] ["value"] (defScope s_is_time) := ⟨rfl, rfl, rfl, by decide +kernel, rfl, by decide +kernel, by decide +kernel⟩
abbrev s_is_moment : Stmt := top 13
theorem c_is_moment : FnScope ["value"] ["value"] (defScope s_is_moment) := ⟨rfl, rfl, rfl, by decide +kernel, rfl, by decide +kernel, by decide +kernel⟩
abbrev s_Moment___init__ : Stmt := inClass (top 15) 0
theorem c_Moment___init__ : FnScope ["self", "seconds"] ["self", "seconds"] (defScope s_Moment___init__) := ⟨rfl, rfl, rfl, by decide +kernel, rfl, by decide +kernel, by decide +kernel⟩
abbrev s_Moment_seconds : Stmt := inClass (top 15) 1
theorem c_Moment_seconds : FnScope ["self"] ["self"] (defScope s_Moment_seconds) := ⟨rfl, rfl, rfl, by decide +kernel, rfl, by decide +kernel, by decide +kernel⟩
abbrev s_Moment_seen : Stmt := inClass (top 15) 2
theorem c_Moment_seen : FnScope ["self", "grain"] ["self", "grain"] (defScope s_Moment_seen) := ⟨rfl, rfl, rfl, by decide +kernel, rfl, by decide +kernel, by decide +kernel⟩
abbrev s_Moment___add__ : Stmt := inClass (top 15) 3
theorem c_Moment___add__ : FnScope ["self", "other"] ["self", "other"] (defScope s_Moment___add__) := ⟨rfl, rfl, rfl, by decide +kernel, rfl, by decide +kernel, by decide +kernel⟩
abbrev s_Moment___radd__ : Stmt := inClass (top 15) 4
theorem c_Moment___radd__ : FnScope ["self", "other"] ["self", "other"] (defScope s_Moment___radd__) := ⟨rfl, rfl, rfl, by decide +kernel, rfl, by decide +kernel, by decide +kernel⟩
abbrev s_Moment___sub__ : Stmt := inClass (top 15) 5
theorem c_Moment___sub__ : FnScope ["self", "other"] ["self", "other"] (defScope s_Moment___sub__) := ⟨rfl, rfl, rfl, by decide +kernel, rfl, by decide +kernel, by decide +kernel⟩
abbrev s_Moment___rsub__ : Stmt := inClass (top 15) 6
theorem c_Moment___rsub__ : FnScope ["self", "other"] ["self", "other"] (defScope s_Moment___rsub__) := ⟨rfl, rfl, rfl, by decide +kernel, rfl, by decide +kernel, by decide +kernel⟩
abbrev s_Moment___lt__ : Stmt := inClass (top 15) 7
theorem c_Moment___lt__ : FnScope ["self", "other"] ["self", "other"] (defScope s_Moment___lt__) := ⟨rfl, rfl, rfl, by decide +kernel, rfl, by decide +kernel, by decide +kernel⟩
abbrev s_Moment___le__ : Stmt := inClass (top 15) 8
theorem c_Moment___le__ : FnScope ["self", "other"] ["self", "other"] (defScope s_Moment___le__) := ⟨rfl, rfl, rfl, by decide +kernel, rfl, by decide +kernel, by decide +kernel⟩
abbrev s_Moment___gt__ : Stmt := inClass (top 15) 9
theorem c_Moment___gt__ : FnScope ["self", "other"] ["self", "other"] (defScope s_Moment___gt__) := ⟨rfl, rfl, rfl, by decide +kernel, rfl, by decide +kernel, by decide +kernel⟩
abbrev s_Moment___ge__ : Stmt := inClass (top 15) 10
theorem c_Moment___ge__ : FnScope ["self", "other"] ["self", "other"] (defScope s_Moment___ge__) := ⟨rfl, rfl, rfl, by decide +kernel, rfl, by decide +kernel, by decide +kernel⟩
abbrev s_Moment___eq__ : Stmt := inClass (top 15) 11
theorem c_Moment___eq__ : FnScope ["self", "other"] ["self", "other"] (defScope s_Moment___eq__) := ⟨rfl, rfl, rfl, by decide +kernel, rfl, by decide +kernel, by decide +kernel⟩
abbrev s_number_of : Stmt := top 16
theorem c_number_of : FnScope ["value"] ["value"] (defScope s_number_of) := ⟨rfl, rfl, rfl, by decide +kernel, rfl, by decide +kernel, by decide +kernel⟩
abbrev s_seconds_of : Stmt := top 17
theorem c_seconds_of : FnScope ["value"] ["value"] (defScope s_seconds_of) := ⟨rfl, rfl, rfl, by decide +kernel, rfl, by decide +kernel, by decide +kernel⟩
abbrev s_Rule___init__ : Stmt := inClass (top 19) 0
theorem c_Rule___init__ : FnScope ["self", "word", "after"] ["self", "word", "after"] (defScope s_Rule___init__) := ⟨rfl, rfl, rfl, by decide +kernel, rfl, by decide +kernel, by decide +kernel⟩
abbrev s_Rule_always : Stmt := inClass (top 19) 1
theorem c_Rule_always : FnScope [] [] (defScope s_Rule_always) := ⟨rfl, rfl, rfl, by decide +kernel, rfl, by decide +kernel, by decide +kernel⟩
abbrev s_Rule_never : Stmt := inClass (top 19) 2
theorem c_Rule_never : FnScope [] [] (defScope s_Rule_never) := ⟨rfl, rfl, rfl, by decide +kernel, rfl, by decide +kernel, by decide +kernel⟩
abbrev s_Rule_seldom : Stmt := inClass (top 19) 3
theorem c_Rule_seldom : FnScope ["after"] ["after"] (defScope s_Rule_seldom) := ⟨rfl, rfl, rfl, by decide +kernel, rfl, by decide +kernel, by decide +kernel⟩
abbrev s_Rule_word : Stmt := inClass (top 19) 4
theorem c_Rule_word : FnScope ["self"] ["self"] (defScope s_Rule_word) := ⟨rfl, rfl, rfl, by decide +kernel, rfl, by decide +kernel, by decide +kernel⟩
abbrev s_Rule_after : Stmt := inClass (top 19) 5
theorem c_Rule_after : FnScope ["self"] ["self"] (defScope s_Rule_after) := ⟨rfl, rfl, rfl, by decide +kernel, rfl, by decide +kernel, by decide +kernel⟩
abbrev s_Rule___call__ : Stmt := inClass (top 19) 6
theorem c_Rule___call__ : FnScope ["self", "file", "at", "moment", "marks", "read"] ["self", "file", "at"] (defScope s_Rule___call__) := ⟨rfl, rfl, rfl, by decide +kernel, rfl, by decide +kernel, by decide +kernel⟩
abbrev s_Rule___eq__ : Stmt := inClass (top 19) 7
theorem c_Rule___eq__ : FnScope ["self", "other"] ["self", "other"] (defScope s_Rule___eq__) := ⟨rfl, rfl, rfl, by decide +kernel, rfl, by decide +kernel, by decide +kernel⟩
abbrev s_is_deed : Stmt := top 24
theorem c_is_deed : FnScope ["value", "word"] ["value"] (defScope s_is_deed) := ⟨rfl, rfl, rfl, by decide +kernel, rfl, by decide +kernel, by decide +kernel⟩
abbrev s_makes : Stmt := top 25
theorem c_makes : FnScope ["value"] ["value"] (defScope s_makes) := ⟨rfl, rfl, rfl, by decide +kernel, rfl, by decide +kernel, by decide +kernel⟩
abbrev s_backs : Stmt := top 26
theorem c_backs : FnScope ["deed", "word", "found", "mark"] ["deed"] (defScope s_backs) := ⟨rfl, rfl, rfl, by decide +kernel, rfl, by decide +kernel, by decide +kernel⟩
abbrev s_is_looks : Stmt := top 27
theorem c_is_looks : FnScope ["value", "mark"] ["value"] (defScope s_is_looks) := ⟨rfl, rfl, rfl, by decide +kernel, rfl, by decide +kernel, by decide +kernel⟩
abbrev s_File___init__ : Stmt := inClass (top 29) 0
theorem c_File___init__ : FnScope ["self", "rule", "deed", "at", "moment", "mark", "back"] ["self", "rule", "deed", "at"] (defScope s_File___init__) := ⟨rfl, rfl, rfl, by decide +kernel, rfl, by decide +kernel, by decide +kernel⟩
abbrev s_File_last : Stmt := inClass (top 29) 1
theorem c_File_last : FnScope ["self"] ["self"] (defScope s_File_last) := ⟨rfl, rfl, rfl, by decide +kernel, rfl, by decide +kernel, by decide +kernel⟩
abbrev s_File_held : Stmt := inClass (top 29) 2
theorem c_File_held : FnScope ["self"] ["self"] (defScope s_File_held) := ⟨rfl, rfl, rfl, by decide +kernel, rfl, by decide +kernel, by decide +kernel⟩
abbrev s_File_held_setter : Stmt := inClass (top 29) 3
theorem c_File_held_setter : FnScope ["self", "value"] ["self", "value"] (defScope s_File_held_setter) := ⟨rfl, rfl, rfl, by decide +kernel, rfl, by decide +kernel, by decide +kernel⟩
abbrev s_File___getitem__ : Stmt := inClass (top 29) 4
theorem c_File___getitem__ : FnScope ["self", "at"] ["self", "at"] (defScope s_File___getitem__) := ⟨rfl, rfl, rfl, by decide +kernel, rfl, by decide +kernel, by decide +kernel⟩
abbrev s_File___iter__ : Stmt := inClass (top 29) 5
theorem c_File___iter__ : FnScope ["self"] ["self"] (defScope s_File___iter__) := ⟨rfl, rfl, rfl, by decide +kernel, rfl, by decide +kernel, by decide +kernel⟩
abbrev s_File_marks : Stmt := inClass (top 29) 6
theorem c_File_marks : FnScope ["self"] ["self"] (defScope s_File_marks) := ⟨rfl, rfl, rfl, by decide +kernel, rfl, by decide +kernel, by decide +kernel⟩
abbrev s_File_latest : Stmt := inClass (top 29) 7
theorem c_File_latest : FnScope ["self", "looks", "mark"] ["self", "looks"] (defScope s_File_latest) := ⟨rfl, rfl, rfl, by decide +kernel, rfl, by decide +kernel, by decide +kernel⟩
abbrev s_File_do : Stmt := inClass (top 29) 8
theorem c_File_do : FnScope ["self", "deed", "at", "moment", "shifts", "mark", "back"] ["self", "deed", "at"] (defScope s_File_do) := ⟨rfl, rfl, rfl, by decide +kernel, rfl, by decide +kernel, by decide +kernel⟩
abbrev s_File_shifts : Stmt := inClass (top 29) 9
theorem c_File_shifts : FnScope ["self", "deed", "moment"] ["self", "deed", "moment"] (defScope s_File_shifts) := ⟨rfl, rfl, rfl, by decide +kernel, rfl, by decide +kernel, by decide +kernel⟩
abbrev s_File_hold : Stmt := inClass (top 29) 10
theorem c_File_hold : FnScope ["self"] ["self"] (defScope s_File_hold) := ⟨rfl, rfl, rfl, by decide +kernel, rfl, by decide +kernel, by decide +kernel⟩
abbrev s_File_within : Stmt := inClass (top 29) 11
theorem c_File_within : FnScope ["self", "visitor"] ["self", "visitor"] (defScope s_File_within) := ⟨rfl, rfl, rfl, by decide +kernel, rfl, by decide +kernel, by decide +kernel⟩
abbrev s_File_double : Stmt := inClass (top 29) 12
theorem c_File_double : FnScope ["self"] ["self"] (defScope s_File_double) := ⟨rfl, rfl, rfl, by decide +kernel, rfl, by decide +kernel, by decide +kernel⟩
abbrev s_File___eq__ : Stmt := inClass (top 29) 13
theorem c_File___eq__ : FnScope ["self", "other"] ["self", "other"] (defScope s_File___eq__) := ⟨rfl, rfl, rfl, by decide +kernel, rfl, by decide +kernel, by decide +kernel⟩
abbrev s_law_source : Stmt := top 31
theorem c_law_source : FnScope ["script", "turn", "cell", "number", "seed"] ["script", "turn"] (defScope s_law_source) := ⟨rfl, rfl, rfl, by decide +kernel, rfl, by decide +kernel, by decide +kernel⟩
abbrev s_law_draw : Stmt := top 32
theorem c_law_draw : FnScope ["source", "amount", "digit", "found"] ["source", "amount"] (defScope s_law_draw) := ⟨rfl, rfl, rfl, by decide +kernel, rfl, by decide +kernel, by decide +kernel⟩
abbrev s_law_pick : Stmt := top 33
theorem c_law_pick : FnScope ["source", "items"] ["source", "items"] (defScope s_law_pick) := ⟨rfl, rfl, rfl, by decide +kernel, rfl, by decide +kernel, by decide +kernel⟩
abbrev s_law_rule : Stmt := top 34
theorem c_law_rule : FnScope ["kind", "after"] ["kind", "after"] (defScope s_law_rule) := ⟨rfl, rfl, rfl, by decide +kernel, rfl, by decide +kernel, by decide +kernel⟩
abbrev s_law_refused : Stmt := top 35
theorem c_law_refused : FnScope ["call", "found", "e"] ["call"] (defScope s_law_refused) := ⟨rfl, rfl, rfl, by decide +kernel, rfl, by decide +kernel, by decide +kernel⟩
abbrev s_law_refused_too : Stmt := top 36
theorem c_law_refused_too : FnScope ["rule", "wrong"] ["rule", "wrong"] (defScope s_law_refused_too) := ⟨rfl, rfl, rfl, by decide +kernel, rfl, by decide +kernel, by decide +kernel⟩
abbrev s_law_equal : Stmt := top 37
theorem c_law_equal : FnScope ["source", "rule", "after", "kind", "other"] ["source", "rule", "after", "kind"] (defScope s_law_equal) := ⟨rfl, rfl, rfl, by decide +kernel, rfl, by decide +kernel, by decide +kernel⟩
abbrev s_law : Stmt := top 38
theorem c_law : FnScope ["script", "turn", "source", "kind", "after", "start", "later", "at", "marks", "due", "told", "found", "file", "odd", "rule", "wrong"] ["script"] (defScope s_law) := ⟨rfl, rfl, rfl, by decide +kernel, rfl, by decide +kernel, by decide +kernel⟩
local macro_rules | `(tactic| purse 7003 => fail) => `(tactic| k_dflt (refine Sh.has_ (by assumption) ?_; repeat (first | exact On.here | apply On.next)))
local macro_rules | `(tactic| purse 7004 => fail) => `(tactic| k_dflt (repeat (first | exact On.here | apply On.next)))
local macro_rules | `(tactic| purse 7005 => fail) => `(tactic| (repeat (first | exact Rep.here | apply Rep.next)))
local macro_rules | `(tactic| purse 7006 => fail) => `(tactic| (exact Sh.out (by assumption) (fun b h => by simp [h])))
local macro_rules | `(tactic| purse 7007 => fail) => `(tactic| k_dflt (first | ((with_reducible refine cdivw ?_ ?_) <;> omega) | ((with_reducible show CDiv _ _); constructor <;> omega) | ((with_reducible show CMul _ _); (first | (left; constructor <;> omega) | (right; constructor <;> omega))) | (show (0 : Int) < _; omega)))
local macro_rules | `(tactic| purse 7008 => fail) => `(tactic| first | exact Kd.int _ | exact Kd.bl _ | exact Kd.non | exact Kd.str _ | exact Kd.ins (by (purse 7003 => fail)) | exact Kd.lst (by (purse 7003 => fail)) | exact Kd.tup (by (purse 7003 => fail)))
local macro_rules | `(tactic| purse 7009 => fail) => `(tactic| first | exact DpAll.nil | (apply DpAll.cons; (purse 7010 => fail); (purse 7009 => fail)))
local macro_rules | `(tactic| purse 7010 => fail) => `(tactic| first | exact Dp.int _ | exact Dp.bl _ | exact Dp.non | exact Dp.str _ | (refine dp_int ?_; omega) | (refine dp_bl ?_; simp only [decide_eq_decide]; omega) | (apply dp_lst; (purse 7003 => fail); (purse 7009 => fail)) | (apply dp_tup; (purse 7003 => fail); (purse 7009 => fail)))
local macro_rules | `(tactic| purse 7011 => fail) => `(tactic| first | assumption | omega)
local macro_rules | `(tactic| purse 7001 => fail) => `(tactic| fail "no use")
local macro_rules | `(tactic| purse 7002 => fail) => `(tactic| first
  | (with_reducible refine set_go ?_)
  | (with_reducible refine Step.go ?_)
  | (with_reducible first | refine g_pow10_6 ?_ | refine g_pow10_7 ?_ | refine g_pow10_18 ?_ | refine g_pow10_29 ?_ | refine g_pow10_30 ?_)
  | ((with_reducible refine' g_I ?a0 ?_); (case a0 => (purse 7007 => fail)))
  | ((with_reducible refine' g_ixL ?a0 ?a1 ?_); (case a0 => (purse 7003 => fail)); (case a1 => k_dflt (exact rfl)))
  | ((with_reducible refine' g_kfld ?a0 ?a1 ?a2 ?a3 ?_); (case a0 => (purse 7003 => fail)); (case a1 => k_dflt (assumption)); (case a2 => k_dflt (assumption)); (case a3 => k_dflt (exact rfl)))
  | ((with_reducible refine' g_kprop ?a0 ?_); (case a0 => (purse 7003 => fail)))
  | ((with_reducible refine' g_kmeth ?a0 ?a1 ?_); (case a0 => (purse 7003 => fail)); (case a1 => k_dflt (exact rfl)))
  | ((with_reducible refine' g_own ?a0 ?a1 ?a2 ?_); (case a0 => (purse 7003 => fail)); (case a1 => (purse 7008 => fail)); (case a2 => k_dflt (assumption)))
  | ((with_reducible refine' g_cmp ?a0 ?a1 ?a2 ?_); (case a0 => (purse 7003 => fail)); (case a1 => (purse 7008 => fail)); (case a2 => k_dflt (assumption)))
  | ((with_reducible refine' g_neq ?a0 ?a1 ?a2 ?_); (case a0 => (purse 7003 => fail)); (case a1 => (purse 7008 => fail)); (case a2 => k_dflt (assumption)))
  | ((with_reducible refine' g_right ?a0 ?_); (case a0 => (purse 7003 => fail)))
  | ((with_reducible refine' use_draw ?a0 ?a1 ?a2 ?a3 ?a4 ?_); (case a0 => assumption); (case a1 => intro _ _; (purse 7005 => fail)); (case a2 => assumption); (case a3 => (purse 7011 => fail)); (case a4 => (purse 7011 => fail)); intro _ _ _ _ _ _ _ _)
  | ((with_reducible refine' use_giveI ?a0 ?a1 ?a2 ?_); (case a0 => assumption); (case a1 => intro _ _; (purse 7005 => fail)); (case a2 => assumption); intro _ _ _ _ _ _ _ _)
  | ((with_reducible refine' use_source ?a0 ?a1 ?_); (case a0 => assumption); (case a1 => k_dflt (assumption)); intro _ _ _ _ _ _)
  | (with_reducible refine g_absN ?_; intro _ _)
  | (with_reducible refine g_maxN ?_; intro _ _ _ _)
  | (with_reducible refine g_minN ?_; intro _ _ _ _)
  | ((with_reducible refine' g_kR1 ?a0 ?a1 ?_); (case a0 => omega); (case a1 => omega))
  | ((with_reducible refine' g_neD ?a0 ?a1 ?a2 ?_); (case a0 => (purse 7010 => fail)); (case a1 => (purse 7010 => fail)); (case a2 => k_dflt (rfl)))
  | ((with_reducible refine' g_eqD ?a0 ?a1 ?a2 ?_); (case a0 => (purse 7010 => fail)); (case a1 => (purse 7010 => fail)); (case a2 => k_dflt (rfl)))
  | ((with_reducible refine' g_klst ?a0 ?a1 ?_); (case a0 => assumption); (case a1 => k_dflt (exact rfl)); intro _ _ _ _)
  | ((with_reducible refine' g_ktup ?a0 ?a1 ?_); (case a0 => assumption); (case a1 => k_dflt (exact rfl)); intro _ _ _ _)
  | ((with_reducible refine' g_setL ?a0 ?a1 ?a2 ?_); (case a0 => assumption); (case a1 => (purse 7005 => fail)); (case a2 => k_dflt (exact rfl)); intro _ _)
  | ((with_reducible refine' g_unl3 ?a0 ?_); (case a0 => (purse 7003 => fail)))
  | (purse 7001 => fail))
local macro_rules | `(tactic| purse 7012 => fail) => `(tactic| ((try (with_reducible refine start_go ?_)); repeat (purse 7002 => fail)))
local macro_rules | `(tactic| purse 7013 => fail) => `(tactic| first | rfl | (refine decide_eq_true ?_; omega) | (simp only [Bool.not_eq_true', Bool.not_eq_false', decide_eq_false_iff_not, decide_eq_true_eq, Bool.not_not, decide_eq_decide]; done) | (simp only [Bool.not_eq_true', Bool.not_eq_false', decide_eq_false_iff_not, decide_eq_true_eq, Bool.not_not, decide_eq_decide]; omega))
local macro_rules | `(tactic| purse 7014 => fail) => `(tactic| first | rfl | (refine decide_eq_false ?_; omega) | (simp only [Bool.not_eq_true', Bool.not_eq_false', decide_eq_false_iff_not, decide_eq_true_eq, Bool.not_not, decide_eq_decide]; done) | (simp only [Bool.not_eq_true', Bool.not_eq_false', decide_eq_false_iff_not, decide_eq_true_eq, Bool.not_not, decide_eq_decide]; omega))
local macro_rules | `(tactic| purse 7015 => fail) => `(tactic| ((refine g_yes ?h ?_); (case h => (purse 7013 => fail))))
local macro_rules | `(tactic| purse 7016 => fail) => `(tactic| ((refine g_no ?h ?_); (case h => (purse 7014 => fail))))
local macro_rules | `(tactic| purse 7017 => fail) => `(tactic| first | (purse 7015 => fail) | (purse 7016 => fail))
local macro_rules | `(tactic| purse 7018 => fail) => `(tactic| repeat ((purse 7012 => fail); (purse 7017 => fail)))
local macro_rules | `(tactic| purse 7019 => fail) => `(tactic| repeat (first | exact intIn_nil | refine intIn_cons (by omega) (by omega) ?_))
local macro_rules | `(tactic| purse 7020 => fail) => `(tactic| (simp only [List.length_cons, List.length_nil]; omega))
local macro_rules | `(tactic| purse 7021 => fail) => `(tactic| (refine g_two (fun c => ?_) (fun c => ?_) <;> first | (have c := of_decide_eq_true c) | (have c := of_decide_eq_false c) | skip))
local macro_rules | `(tactic| purse 7022 => fail) => `(tactic| ((purse 7018 => fail); (purse 7012 => fail); try ((purse 7021 => fail) <;> (purse 7022 => fail))))

/-! moments: what the class's text and its helpers promise -/
open He in
structure TM (K : PySem.W.Frag) (mg : Str → Option Value) : Prop where
  g_Moment : mg "Moment" = some (.ref (ga K "Moment"))
  g_is_whole : mg "is_whole" = some (.ref (ga K "is_whole"))
  g_is_moment : mg "is_moment" = some (.ref (ga K "is_moment"))
  g_number_of : mg "number_of" = some (.ref (ga K "number_of"))
  z_isinstance : mg "isinstance" = none
  z_int : mg "int" = none
  z_bool : mg "bool" = none
  cl : Cls K (ga K "Moment")
  nN : NoAttr K (ga K "Moment") "number"
  ic : C8.InsC K (ga K "Moment")
  ki : PySem.W.kitOne K (.type "int") (.ref (ga K "Moment")) = some false
  ba : Bin K .Add (ga K "Moment") (ma K (ga K "Moment") "__add__")
  bi : Beside K .Add (ga K "Moment") (.type "int")
def mo (n : Int) : List (Str × V) := [("number", .int n)]
def spWhole : Sp := fun vs H Q _ => ∃ n : Int, vs = [.int n] ∧ Q (.bl true) H
def spIsMo : Sp := fun vs H Q _ => ∃ n : Int, vs = [.int n] ∧ -1000000000000000000000000000000 ≤ n ∧ n ≤ 1000000000000000000000000000000 ∧ Q (.bl true) H
def spInit (C : Addr) : Sp := fun vs H Q _ => ∃ (p dx : Addr) (n : Int), vs = [.ref p, .int n] ∧ H p = some (.ins C dx []) ∧ -1000000000000000000000000000000 ≤ n ∧ n ≤ 1000000000000000000000000000000 ∧ ∀ H', Ch [p] H H' → H' p = some (.ins C dx (mo n)) → Q .non H'
def spSec (C : Addr) : Sp := fun vs H Q _ => ∃ (a dx : Addr) (n : Int), vs = [.ref a] ∧ H a = some (.ins C dx (mo n)) ∧ Q (.int n) H
def spSeen (C : Addr) : Sp := fun vs H Q _ => ∃ (a dx : Addr) (n g : Int), vs = [.ref a, .int g] ∧ H a = some (.ins C dx (mo n)) ∧ 1 ≤ g ∧ g ≤ 1000000 ∧ -1000000000000000000000000000000 ≤ n / g * g ∧ n / g * g ≤ 1000000000000000000000000000000 ∧ New C (mo (n / g * g)) H Q
def spPlus (C : Addr) (f : Int → Int → Int) : Sp := fun vs H Q _ => ∃ (a dx : Addr) (n k : Int), vs = [.ref a, .int k] ∧ H a = some (.ins C dx (mo n)) ∧ -1000000000000000000000000000000 ≤ f n k ∧ f n k ≤ 1000000000000000000000000000000 ∧ New C (mo (f n k)) H Q
def spSub (C : Addr) : Sp := fun vs H Q E => (∃ (a dx b dy : Addr) (n m : Int), vs = [.ref a, .ref b] ∧ H a = some (.ins C dx (mo n)) ∧ H b = some (.ins C dy (mo m)) ∧ Q (.int (n - m)) H) ∨ spPlus C (fun n k => n - k) vs H Q E
def spCmp (C : Addr) (f : Int → Int → Bool) : Sp := fun vs H Q _ => ∃ (a dx b dy : Addr) (n m : Int), vs = [.ref a, .ref b] ∧ H a = some (.ins C dx (mo n)) ∧ H b = some (.ins C dy (mo m)) ∧ Q (.bl (f n m)) H
def spEqM (C : Addr) : Sp := fun vs H Q E => spCmp C (fun n m => decide (n = m)) vs H Q E ∨ ∃ (a dx : Addr) (n m : Int), vs = [.ref a, .int m] ∧ H a = some (.ins C dx (mo n)) ∧ Q (.bl false) H
def spNum (C : Addr) : Sp := fun vs H Q _ => ∃ (b dy : Addr) (m : Int), vs = [.ref b] ∧ H b = some (.ins C dy (mo m)) ∧ Q (.int m) H
section
open He
variable {P : Program} {w : World} {K : PySem.W.Frag} {mg : Str → Option Value} {base : Heap} {f : Addr} {fd : FuncData}
abbrev FnP (K : PySem.W.Frag) (x q : Str) (st : Stmt) (f : Addr) (fd : FuncData) : Prop := FunD K x q (defArgs st) (defBody st) (defScope st) [] [] f fd
theorem ty_mo {H : Hp} {a dx : Addr} {fs : List (Str × V)} (T : TM K mg) (h : H a = some (.ins (ga K "Moment") dx fs)) : TyX K H (.ref a) (.ref (ga K "Moment")) := .base (.ins h T.ic.cl T.ic.ha T.ic.hn T.ic.htk T.ic.hm)
theorem ok_whole (F : FnP K "is_whole" "is_whole" s_is_whole f fd) (T : TM K mg) : FnOk P w K mg base (L2.CX P w) 2 f fd ["value"] spWhole := by
  refine F.ok c_is_whole (fun vs H Q E h => ?_) (fun cdv A outer s H vs Q E hr h => ⟨_, pss_one (ps_ret (pe_and (pe_callB call_isi (by rfl) T.z_isinstance (by decide +kernel) (pa_cons (pv 0) (pa_cons (pe_bltn (v := .ty "int") rfl T.z_int (by decide +kernel) rfl) (pa_nil)))) (pe_one (pe_not (pe_callB call_isi (by rfl) T.z_isinstance (by decide +kernel) (pa_cons (pv 0) (pa_cons (pe_bltn (v := .ty "bool") rfl T.z_bool (by decide +kernel) rfl) (pa_nil)))))))), ?_⟩)
  · obtain ⟨n, rfl, _⟩ := h
    rfl
  · obtain ⟨n, rfl, k⟩ := h
    (purse 7012 => fail)
    refine g_isi (.ty "int") (.base (.int n)) (kit_ty (b := "int") (r := true) (by decide +kernel)) ?_
    (purse 7012 => fail)
    (purse 7015 => fail)
    (purse 7012 => fail)
    refine g_isi (.ty "bool") (.base (.int n)) (kit_ty (b := "bool") (r := false) (by decide +kernel)) ?_
    (purse 7012 => fail)
    exact k
theorem ok_ismo (F : FnP K "is_moment" "is_moment" s_is_moment f fd) (T : TM K mg) (D_is_whole : Dn P w K mg base 2 (ga K "is_whole") ["value"] spWhole) : FnOk P w K mg base (L2.CX P w) 4 f fd ["value"] spIsMo := by
  refine F.ok c_is_moment (fun vs H Q E h => ?_) (fun cdv A outer s H vs Q E hr h => ⟨_, pss_one (ps_ret (pe_and (pe_dn D_is_whole (rm hr) rfl T.g_is_whole (passes_call (takes_of rfl rfl rfl rfl) fun _ _ _ _ h => h) (pa_cons (pv 0) (pa_nil))) (pe_one (pe_chain op_le op_le (pe_un un_neg (pe_op op_pow (pe_int) (pe_int))) (pv 0) (pe_op op_pow (pe_int) (pe_int)))))), ?_⟩)
  · obtain ⟨n, rfl, _⟩ := h
    rfl
  · obtain ⟨n, rfl, h1, h2, k⟩ := h
    (purse 7012 => fail)
    refine ⟨n, rfl, ?_⟩
    (purse 7012 => fail)
    (purse 7015 => fail)
    (purse 7012 => fail)
    (purse 7015 => fail)
    (purse 7012 => fail)
    rw [decide_eq_true h2]
    exact k
theorem ok_init (F : FnP K "__init__" "Moment.__init__" s_Moment___init__ f fd) (T : TM K mg) (D_is_moment : Dn P w K mg base 4 (ga K "is_moment") ["value"] spIsMo) : FnOk P w K mg base (L2.CX P w) 6 f fd ["self", "seconds"] (spInit (ga K "Moment")) := by
  refine F.ok c_Moment___init__ (fun vs H Q E h => ?_) (fun cdv A outer s H vs Q E hr h => ⟨_, pss_cons (ps_if (pt_not (pt_val (pe_dn D_is_moment (rm hr) rfl T.g_is_moment (passes_call (takes_of rfl rfl rfl rfl) fun _ _ _ _ h => h) (pa_cons (pv 1) (pa_nil)))))
      (pss_one (ps_never))
      (pss_nil))
      (pss_one (ps_fld (pv 0) (pv 1) rfl)), ?_⟩)
  · obtain ⟨p, dx, n, rfl, _⟩ := h
    rfl
  · obtain ⟨p, dx, n, rfl, hp, h1, h2, k⟩ := h
    have S : Sh H (fun b => b = p) H [(p, .ins (ga K "Moment") dx [], true)] := Sh.start.take hp rfl (fun _ h => nomatch h)
    (purse 7012 => fail)
    refine ⟨n, rfl, h1, h2, ?_⟩
    (purse 7012 => fail)
    (purse 7016 => fail)
    (purse 7012 => fail)
    refine g_ksfld S (by (purse 7005 => fail)) T.cl T.nN (by decide) fun H' S' => ?_
    refine k H' (by (purse 7006 => fail)) (by (purse 7003 => fail))
theorem ok_sec (F : FnP K "seconds" "Moment.seconds" s_Moment_seconds f fd) (T : TM K mg) : FnOk P w K mg base (L2.CX P w) 2 f fd ["self"] (spSec (ga K "Moment")) := by
  refine F.ok c_Moment_seconds (fun vs H Q E h => ?_) (fun cdv A outer s H vs Q E hr h => ⟨_, pss_one (ps_ret (pe_fld (pv 0) rfl)), ?_⟩)
  · obtain ⟨a, dx, n, rfl, _⟩ := h
    rfl
  · obtain ⟨a, dx, n, rfl, ha, k⟩ := h
    have S : Sh H (fun _ => False) H [(a, .ins (ga K "Moment") dx (mo n), false)] := Sh.start.know ha (fun _ h => nomatch h)
    have t1 := T.cl
    have t2 := T.nN
    (purse 7012 => fail)
    exact k
theorem g_mkmo {H0 : Hp} {M : Addr → Prop} {H : Hp} {l : List Ent} {C : Addr} {E : XK} {Q : VK} {n : Int} (S : Sh H0 M H l) (h1 : -1000000000000000000000000000000 ≤ n) (h2 : n ≤ 1000000000000000000000000000000)
    (q : ∀ x dx H', Sh H0 M H' ((x, .ins C dx (mo n), true) :: l) → Q (.ref x) H') : kMake C (spInit C) E Q [.int n] H :=
  g_kmake (fs := mo n) S (fun x dx H1 Q' hx k => ⟨x, dx, n, rfl, hx, h1, h2, k⟩) q
section
variable {H0 : Hp} {M : Addr → Prop} {H : Hp} {l : List Ent} {C a b dx dy : Addr} {E : XK} {Q : VK} {n m g k : Int} {fn : Int → Int → Int} {fb : Int → Int → Bool}
theorem end_new {H' : Hp} {x : Addr} {fs : List (Str × V)} (S : Sh H (fun _ => False) H' ((x, .ins C dx fs, true) :: l)) (k : New C fs H Q) : Q (.ref x) H' :=
  k x dx H' ((S.mu _ List.mem_cons_self rfl).elim False.elim id) (S.out fun _ h => h.elim) (S.has_ .here)
theorem use_sec (S : Sh H0 M H l) (o : On l a (.ins C dx (mo n))) (q : Q (.int n) H) : spSec C [.ref a] H Q E := ⟨a, dx, n, rfl, S.has_ o, q⟩
theorem use_seen (S : Sh H0 M H l) (o : On l a (.ins C dx (mo n))) (h1 : 1 ≤ g) (h2 : g ≤ 1000000) (h3 : -1000000000000000000000000000000 ≤ n / g * g) (h4 : n / g * g ≤ 1000000000000000000000000000000)
    (q : ∀ x dx H', Sh H0 M H' ((x, .ins C dx (mo (n / g * g)), true) :: l) → Q (.ref x) H') : spSeen C [.ref a, .int g] H Q E := ⟨a, dx, n, g, rfl, S.has_ o, h1, h2, h3, h4, g_new S q⟩
theorem use_plus (S : Sh H0 M H l) (o : On l a (.ins C dx (mo n))) (h3 : -1000000000000000000000000000000 ≤ fn n k) (h4 : fn n k ≤ 1000000000000000000000000000000)
    (q : ∀ x dx H', Sh H0 M H' ((x, .ins C dx (mo (fn n k)), true) :: l) → Q (.ref x) H') : spPlus C fn [.ref a, .int k] H Q E := ⟨a, dx, n, k, rfl, S.has_ o, h3, h4, g_new S q⟩
theorem use_subI (S : Sh H0 M H l) (o : On l a (.ins C dx (mo n))) (h3 : -1000000000000000000000000000000 ≤ n - k) (h4 : n - k ≤ 1000000000000000000000000000000)
    (q : ∀ x dx H', Sh H0 M H' ((x, .ins C dx (mo (n - k)), true) :: l) → Q (.ref x) H') : spSub C [.ref a, .int k] H Q E := .inr ⟨a, dx, n, k, rfl, S.has_ o, h3, h4, g_new S q⟩
theorem use_subM (S : Sh H0 M H l) (o : On l a (.ins C dx (mo n))) (o2 : On l b (.ins C dy (mo m))) (q : Q (.int (n - m)) H) : spSub C [.ref a, .ref b] H Q E := .inl ⟨a, dx, b, dy, n, m, rfl, S.has_ o, S.has_ o2, q⟩
theorem use_cmp (S : Sh H0 M H l) (o : On l a (.ins C dx (mo n))) (o2 : On l b (.ins C dy (mo m))) (q : Q (.bl (fb n m)) H) : spCmp C fb [.ref a, .ref b] H Q E := ⟨a, dx, b, dy, n, m, rfl, S.has_ o, S.has_ o2, q⟩
theorem use_eqM (S : Sh H0 M H l) (o : On l a (.ins C dx (mo n))) (o2 : On l b (.ins C dy (mo m))) (q : Q (.bl (decide (n = m))) H) : spEqM C [.ref a, .ref b] H Q E := .inl ⟨a, dx, b, dy, n, m, rfl, S.has_ o, S.has_ o2, q⟩
theorem use_eqI (S : Sh H0 M H l) (o : On l a (.ins C dx (mo n))) (q : Q (.bl false) H) : spEqM C [.ref a, .int m] H Q E := .inr ⟨a, dx, n, m, rfl, S.has_ o, q⟩
theorem use_num (S : Sh H0 M H l) (o : On l a (.ins C dx (mo n))) (q : Q (.int n) H) : spNum C [.ref a] H Q E := ⟨a, dx, n, rfl, S.has_ o, q⟩
theorem use_whole (q : Q (.bl true) H) : spWhole [.int n] H Q E := ⟨n, rfl, q⟩
theorem use_ismo (h1 : -1000000000000000000000000000000 ≤ n) (h2 : n ≤ 1000000000000000000000000000000) (q : Q (.bl true) H) : spIsMo [.int n] H Q E := ⟨n, rfl, h1, h2, q⟩
theorem isi_mm {K K' : PySem.W.Frag} {mg : Str → Option Value} {fs : List (Str × V)} (e : K' = K) (T : TM K mg) (S : Sh H0 M H l) (o : On l a (.ins (ga K "Moment") dx fs)) (q : Q (.bl true) H) : rIsi K' [.ref a, .ref (ga K "Moment")] H Q := by
  rw [e]
  exact g_isi (.own _) (ty_mo T (S.has_ o)) T.ic.me q
theorem isi_im {K K' : PySem.W.Frag} {mg : Str → Option Value} (e : K' = K) (T : TM K mg) (q : Q (.bl false) H) : rIsi K' [.int n, .ref (ga K "Moment")] H Q := by
  rw [e]
  exact g_isi (.own _) (.base (.int n)) T.ki q
end
local macro_rules | `(tactic| purse 7001 => fail) => `(tactic| first
  | ((with_reducible refine' use_sec ?a0 ?a1 ?_); (case a0 => assumption); (case a1 => (purse 7004 => fail)))
  | ((with_reducible refine' use_cmp ?a0 ?a1 ?a2 ?_); (case a0 => assumption); (case a1 => (purse 7004 => fail)); (case a2 => (purse 7004 => fail)))
  | ((with_reducible refine' use_eqM ?a0 ?a1 ?a2 ?_); (case a0 => assumption); (case a1 => (purse 7004 => fail)); (case a2 => (purse 7004 => fail)))
  | ((with_reducible refine' use_eqI ?a0 ?a1 ?_); (case a0 => assumption); (case a1 => (purse 7004 => fail)))
  | ((with_reducible refine' use_num ?a0 ?a1 ?_); (case a0 => assumption); (case a1 => (purse 7004 => fail)))
  | (with_reducible refine use_whole ?_)
  | ((with_reducible refine' use_ismo ?a0 ?a1 ?_); (case a0 => (purse 7011 => fail)); (case a1 => (purse 7011 => fail)))
  | ((with_reducible refine' use_subM ?a0 ?a1 ?a2 ?_); (case a0 => assumption); (case a1 => (purse 7004 => fail)); (case a2 => (purse 7004 => fail)))
  | ((with_reducible refine' g_mkmo ?a0 ?a1 ?a2 ?_); (case a0 => assumption); (case a1 => (purse 7011 => fail)); (case a2 => (purse 7011 => fail)); intro _ _ _ _)
  | ((with_reducible refine' use_seen ?a0 ?a1 ?a2 ?a3 ?a4 ?a5 ?_); (case a0 => assumption); (case a1 => (purse 7004 => fail)); (case a2 => (purse 7011 => fail)); (case a3 => (purse 7011 => fail)); (case a4 => (purse 7011 => fail)); (case a5 => (purse 7011 => fail)); intro _ _ _ _)
  | ((with_reducible refine' use_plus ?a0 ?a1 ?a2 ?a3 ?_); (case a0 => assumption); (case a1 => (purse 7004 => fail)); (case a2 => (purse 7011 => fail)); (case a3 => (purse 7011 => fail)); intro _ _ _ _)
  | ((with_reducible refine' use_subI ?a0 ?a1 ?a2 ?a3 ?_); (case a0 => assumption); (case a1 => (purse 7004 => fail)); (case a2 => (purse 7011 => fail)); (case a3 => (purse 7011 => fail)); intro _ _ _ _)
  | ((with_reducible refine' isi_mm ?e ?a0 ?a1 ?a2 ?_); (case e => k_dflt rfl); (case a0 => assumption); (case a1 => assumption); (case a2 => (purse 7004 => fail)))
  | ((with_reducible refine' isi_im ?e ?a0 ?_); (case e => k_dflt rfl); (case a0 => assumption)))
theorem ok_plus (F : FnP K "__add__" "Moment.__add__" s_Moment___add__ f fd) (T : TM K mg) (D_is_whole : Dn P w K mg base 2 (ga K "is_whole") ["value"] spWhole) (M_Moment : Mn P w K mg base 6 (ga K "Moment") ["self", "seconds"] (spInit (ga K "Moment"))) :
    FnOk P w K mg base (L2.CX P w) 9 f fd ["self", "other"] (spPlus (ga K "Moment") fun n k => n + k) := by
  refine F.ok c_Moment___add__ (fun vs H Q E h => ?_) (fun cdv A outer s H vs Q E hr h => ⟨_, pss_cons (ps_if (pt_not (pt_val (pe_dn D_is_whole (rm hr) rfl T.g_is_whole (passes_call (takes_of rfl rfl rfl rfl) fun _ _ _ _ h => h) (pa_cons (pv 1) (pa_nil)))))
      (pss_one (ps_never))
      (pss_nil))
      (pss_one (ps_ret (pe_mn M_Moment (rm hr) rfl T.g_Moment (passes_call (takes_of rfl rfl rfl rfl) fun _ _ _ _ h => h) (pa_cons (pe_op op_add (pe_fld (pv 0) rfl) (pv 1)) (pa_nil))))), ?_⟩)
  · obtain ⟨a, dx, n, g, rfl, _⟩ := h
    rfl
  · obtain ⟨a, dx, n, g, rfl, ha, h3, h4, k⟩ := h
    have S : Sh H (fun _ => False) H [(a, .ins (ga K "Moment") dx (mo n), false)] := Sh.start.know ha (fun _ h => nomatch h)
    have t1 := T.cl
    have t2 := T.nN
    (purse 7018 => fail)
    (purse 7012 => fail)
    exact end_new (by assumption) k
theorem ok_radd (F : FnP K "__radd__" "Moment.__radd__" s_Moment___radd__ f fd) (T : TM K mg) (D_add : Dn P w K mg base 9 (ma K (ga K "Moment") "__add__") ["self", "other"] (spPlus (ga K "Moment") fun n k => n + k)) :
    FnOk P w K mg base (L2.CX P w) 11 f fd ["self", "other"] (spPlus (ga K "Moment") fun n k => n + k) := by
  refine F.ok c_Moment___radd__ (fun vs H Q E h => ?_) (fun cdv A outer s H vs Q E hr h => ⟨_, pss_one (ps_ret (pe_op (op_own D_add T.ba (rm hr) (passes_call (takes_of rfl rfl rfl rfl) fun _ _ _ _ h => h)) (pv 0) (pv 1))), ?_⟩)
  · obtain ⟨a, dx, n, g, rfl, _⟩ := h
    rfl
  · obtain ⟨a, dx, n, g, rfl, ha, h3, h4, k⟩ := h
    have S : Sh H (fun _ => False) H [(a, .ins (ga K "Moment") dx (mo n), false)] := Sh.start.know ha (fun _ h => nomatch h)
    have t3 := T.bi
    (purse 7018 => fail)
    (purse 7012 => fail)
    exact end_new (by assumption) k
theorem ok_sub (F : FnP K "__sub__" "Moment.__sub__" s_Moment___sub__ f fd) (T : TM K mg) (D_is_whole : Dn P w K mg base 2 (ga K "is_whole") ["value"] spWhole) (M_Moment : Mn P w K mg base 6 (ga K "Moment") ["self", "seconds"] (spInit (ga K "Moment"))) :
    FnOk P w K mg base (L2.CX P w) 9 f fd ["self", "other"] (spSub (ga K "Moment")) := by
  refine F.ok c_Moment___sub__ (fun vs H Q E h => ?_) (fun cdv A outer s H vs Q E hr h => ⟨_, pss_cons (ps_if (pt_val (pe_callB call_isi (by rfl) T.z_isinstance (by decide +kernel) (pa_cons (pv 1) (pa_cons (pe_glob (v := .ref _) rfl T.g_Moment rfl) (pa_nil)))))
      (pss_one (ps_ret (pe_op op_sub (pe_fld (pv 0) rfl) (pe_fld (pv 1) rfl))))
      (pss_nil))
      (pss_cons (ps_if (pt_not (pt_val (pe_dn D_is_whole (rm hr) rfl T.g_is_whole (passes_call (takes_of rfl rfl rfl rfl) fun _ _ _ _ h => h) (pa_cons (pv 1) (pa_nil)))))
      (pss_one (ps_never))
      (pss_nil))
      (pss_one (ps_ret (pe_mn M_Moment (rm hr) rfl T.g_Moment (passes_call (takes_of rfl rfl rfl rfl) fun _ _ _ _ h => h) (pa_cons (pe_op op_sub (pe_fld (pv 0) rfl) (pv 1)) (pa_nil)))))), ?_⟩)
  · rcases h with ⟨a, dx, b, dy, n, m, rfl, _⟩ | ⟨a, dx, n, g, rfl, _⟩ <;> rfl
  · have t1 := T.cl
    have t2 := T.nN
    rcases h with ⟨a, dx, b, dy, n, m, rfl, ha, hb, k⟩ | ⟨a, dx, n, g, rfl, ha, h3, h4, k⟩
    · have S : Sh H (fun _ => False) H [(b, .ins (ga K "Moment") dy (mo m), false), (a, .ins (ga K "Moment") dx (mo n), false)] := (Sh.start.know ha (fun _ h => nomatch h)).know hb (fun e h m => by simp at h; rw [h] at m; cases m)
      (purse 7018 => fail)
      (purse 7012 => fail)
      exact k
    · have S : Sh H (fun _ => False) H [(a, .ins (ga K "Moment") dx (mo n), false)] := Sh.start.know ha (fun _ h => nomatch h)
      (purse 7018 => fail)
      (purse 7012 => fail)
      exact end_new (by assumption) k
theorem ok_num (F : FnP K "number_of" "number_of" s_number_of f fd) (T : TM K mg) : FnOk P w K mg base (L2.CX P w) 2 f fd ["value"] (spNum (ga K "Moment")) := by
  refine F.ok c_number_of (fun vs H Q E h => ?_) (fun cdv A outer s H vs Q E hr h => ⟨_, pss_cons (ps_if (pt_not (pt_val (pe_callB call_isi (by rfl) T.z_isinstance (by decide +kernel) (pa_cons (pv 0) (pa_cons (pe_glob (v := .ref _) rfl T.g_Moment rfl) (pa_nil))))))
      (pss_one (ps_never))
      (pss_nil))
      (pss_one (ps_ret (pe_fld (pv 0) rfl))), ?_⟩)
  · obtain ⟨a, dx, n, rfl, _⟩ := h
    rfl
  · obtain ⟨a, dx, n, rfl, ha, k⟩ := h
    have S : Sh H (fun _ => False) H [(a, .ins (ga K "Moment") dx (mo n), false)] := Sh.start.know ha (fun _ h => nomatch h)
    have t1 := T.cl
    have t2 := T.nN
    (purse 7018 => fail)
    (purse 7012 => fail)
    exact k
theorem ok_lt (F : FnP K "__lt__" "Moment.__lt__" s_Moment___lt__ f fd) (T : TM K mg) (D_number_of : Dn P w K mg base 2 (ga K "number_of") ["value"] (spNum (ga K "Moment"))) :
    FnOk P w K mg base (L2.CX P w) 4 f fd ["self", "other"] (spCmp (ga K "Moment") fun n m => decide (n < m)) := by
  refine F.ok c_Moment___lt__ (fun vs H Q E h => ?_) (fun cdv A outer s H vs Q E hr h => ⟨_, pss_one (ps_ret (pe_cmpR op_lt (pe_fld (pv 0) rfl) (pe_dn D_number_of (rm hr) rfl T.g_number_of (passes_call (takes_of rfl rfl rfl rfl) fun _ _ _ _ h => h) (pa_cons (pv 1) (pa_nil))) (nomark _))), ?_⟩)
  · obtain ⟨a, dx, b, dy, n, m, rfl, _⟩ := h
    rfl
  · obtain ⟨a, dx, b, dy, n, m, rfl, ha, hb, k⟩ := h
    have S : Sh H (fun _ => False) H [(b, .ins (ga K "Moment") dy (mo m), false), (a, .ins (ga K "Moment") dx (mo n), false)] := (Sh.start.know ha (fun _ h => nomatch h)).know hb (fun e h m => by simp at h; rw [h] at m; cases m)
    have t1 := T.cl
    have t2 := T.nN
    (purse 7018 => fail)
    (purse 7012 => fail)
    exact k
theorem ok_le (F : FnP K "__le__" "Moment.__le__" s_Moment___le__ f fd) (T : TM K mg) (D_number_of : Dn P w K mg base 2 (ga K "number_of") ["value"] (spNum (ga K "Moment"))) :
    FnOk P w K mg base (L2.CX P w) 4 f fd ["self", "other"] (spCmp (ga K "Moment") fun n m => decide (n ≤ m)) := by
  refine F.ok c_Moment___le__ (fun vs H Q E h => ?_) (fun cdv A outer s H vs Q E hr h => ⟨_, pss_one (ps_ret (pe_cmpR op_le (pe_fld (pv 0) rfl) (pe_dn D_number_of (rm hr) rfl T.g_number_of (passes_call (takes_of rfl rfl rfl rfl) fun _ _ _ _ h => h) (pa_cons (pv 1) (pa_nil))) (nomark _))), ?_⟩)
  · obtain ⟨a, dx, b, dy, n, m, rfl, _⟩ := h
    rfl
  · obtain ⟨a, dx, b, dy, n, m, rfl, ha, hb, k⟩ := h
    have S : Sh H (fun _ => False) H [(b, .ins (ga K "Moment") dy (mo m), false), (a, .ins (ga K "Moment") dx (mo n), false)] := (Sh.start.know ha (fun _ h => nomatch h)).know hb (fun e h m => by simp at h; rw [h] at m; cases m)
    have t1 := T.cl
    have t2 := T.nN
    (purse 7018 => fail)
    (purse 7012 => fail)
    exact k
theorem ok_gt (F : FnP K "__gt__" "Moment.__gt__" s_Moment___gt__ f fd) (T : TM K mg) (D_number_of : Dn P w K mg base 2 (ga K "number_of") ["value"] (spNum (ga K "Moment"))) :
    FnOk P w K mg base (L2.CX P w) 4 f fd ["self", "other"] (spCmp (ga K "Moment") fun n m => decide (m < n)) := by
  refine F.ok c_Moment___gt__ (fun vs H Q E h => ?_) (fun cdv A outer s H vs Q E hr h => ⟨_, pss_one (ps_ret (pe_cmpR op_gt (pe_fld (pv 0) rfl) (pe_dn D_number_of (rm hr) rfl T.g_number_of (passes_call (takes_of rfl rfl rfl rfl) fun _ _ _ _ h => h) (pa_cons (pv 1) (pa_nil))) (nomark _))), ?_⟩)
  · obtain ⟨a, dx, b, dy, n, m, rfl, _⟩ := h
    rfl
  · obtain ⟨a, dx, b, dy, n, m, rfl, ha, hb, k⟩ := h
    have S : Sh H (fun _ => False) H [(b, .ins (ga K "Moment") dy (mo m), false), (a, .ins (ga K "Moment") dx (mo n), false)] := (Sh.start.know ha (fun _ h => nomatch h)).know hb (fun e h m => by simp at h; rw [h] at m; cases m)
    have t1 := T.cl
    have t2 := T.nN
    (purse 7018 => fail)
    (purse 7012 => fail)
    exact k
theorem ok_ge (F : FnP K "__ge__" "Moment.__ge__" s_Moment___ge__ f fd) (T : TM K mg) (D_number_of : Dn P w K mg base 2 (ga K "number_of") ["value"] (spNum (ga K "Moment"))) :
    FnOk P w K mg base (L2.CX P w) 4 f fd ["self", "other"] (spCmp (ga K "Moment") fun n m => decide (m ≤ n)) := by
  refine F.ok c_Moment___ge__ (fun vs H Q E h => ?_) (fun cdv A outer s H vs Q E hr h => ⟨_, pss_one (ps_ret (pe_cmpR op_ge (pe_fld (pv 0) rfl) (pe_dn D_number_of (rm hr) rfl T.g_number_of (passes_call (takes_of rfl rfl rfl rfl) fun _ _ _ _ h => h) (pa_cons (pv 1) (pa_nil))) (nomark _))), ?_⟩)
  · obtain ⟨a, dx, b, dy, n, m, rfl, _⟩ := h
    rfl
  · obtain ⟨a, dx, b, dy, n, m, rfl, ha, hb, k⟩ := h
    have S : Sh H (fun _ => False) H [(b, .ins (ga K "Moment") dy (mo m), false), (a, .ins (ga K "Moment") dx (mo n), false)] := (Sh.start.know ha (fun _ h => nomatch h)).know hb (fun e h m => by simp at h; rw [h] at m; cases m)
    have t1 := T.cl
    have t2 := T.nN
    (purse 7018 => fail)
    (purse 7012 => fail)
    exact k
theorem ok_eq (F : FnP K "__eq__" "Moment.__eq__" s_Moment___eq__ f fd) (T : TM K mg) : FnOk P w K mg base (L2.CX P w) 4 f fd ["self", "other"] (spEqM (ga K "Moment")) := by
  refine F.ok c_Moment___eq__ (fun vs H Q E h => ?_) (fun cdv A outer s H vs Q E hr h => ⟨_, pss_one (ps_ret (pe_and (pe_callB call_isi (by rfl) T.z_isinstance (by decide +kernel) (pa_cons (pv 1) (pa_cons (pe_glob (v := .ref _) rfl T.g_Moment rfl) (pa_nil)))) (pe_one (pe_cmpR op_eq (pe_fld (pv 0) rfl) (pe_fld (pv 1) rfl) (nomark _))))), ?_⟩)
  · rcases h with ⟨a, dx, b, dy, n, m, rfl, _⟩ | ⟨a, dx, n, g, rfl, _⟩ <;> rfl
  · have t1 := T.cl
    have t2 := T.nN
    rcases h with ⟨a, dx, b, dy, n, m, rfl, ha, hb, k⟩ | ⟨a, dx, n, m, rfl, ha, k⟩
    · have S : Sh H (fun _ => False) H [(b, .ins (ga K "Moment") dy (mo m), false), (a, .ins (ga K "Moment") dx (mo n), false)] := (Sh.start.know ha (fun _ h => nomatch h)).know hb (fun e h m => by simp at h; rw [h] at m; cases m)
      (purse 7018 => fail)
      (purse 7012 => fail)
      exact k
    · (purse 7018 => fail)
      (purse 7012 => fail)
      exact k
end

/-! deeds: what the helpers promise of a deed -/
open He in
def NowT (K : PySem.W.Frag) (x : Str) (ms : List V) : Prop := ∃ t : Addr, PySem.W.nsIn K (ga K "SET_NOW") x = some (some (.ref t)) ∧ KT K t ms
open He in
def BackT (K : PySem.W.Frag) (x : Str) (ms : List V) : Prop := ∃ t : Addr, PySem.W.nsIn K (ga K "SET_BACK") x = some (some (.ref t)) ∧ KT K t ms
open He in
structure TD (K : PySem.W.Frag) (w : World) (mg : Str → Option Value) : Prop where
  g_is_whole : mg "is_whole" = some (.ref (ga K "is_whole"))
  g_is_time : mg "is_time" = some (.ref (ga K "is_time"))
  g_is_deed : mg "is_deed" = some (.ref (ga K "is_deed"))
  z_isinstance : mg "isinstance" = none
  z_len : mg "len" = none
  z_int : mg "int" = none
  z_bool : mg "bool" = none
  z_tuple : mg "tuple" = none
  z_str : mg "str" = none
  g_makes : mg "makes" = some (.ref (ga K "makes"))
  v_MARKS : ∃ u, mg "MARKS" = some u ∧ RelV (.ref (ga K "MARKS")) u
  marks : KT K (ga K "MARKS") [.str "read", .str "written", .str "changed"]
  n_make : NowT K "make" [.str "read", .str "written", .str "changed"]
  n_read : NowT K "read" []
  n_write : NowT K "write" [.str "written", .str "changed"]
  n_rename : NowT K "rename" [.str "changed"]
  n_touch : NowT K "touch" [.str "read", .str "written", .str "changed"]
  n_unpack : NowT K "unpack" [.str "read", .str "changed"]
  n_setback : NowT K "setback" [.str "changed"]
  b_unpack : BackT K "unpack" [.str "written"]
  b_setback : BackT K "setback" [.str "read", .str "written"]
  v_SET_NOW : ∃ u, mg "SET_NOW" = some u ∧ RelV (.ref (ga K "SET_NOW")) u
  v_SET_BACK : ∃ u, mg "SET_BACK" = some u ∧ RelV (.ref (ga K "SET_BACK")) u
  dn : ∃ es n, KDict K w (ga K "SET_NOW") es n
  db : ∃ es n, KDict K w (ga K "SET_BACK") es n
  now0 : ∀ x ∈ (["make", "read", "write", "rename", "touch"] : List Str), ∃ v, PySem.W.nsIn K (ga K "SET_NOW") x = some (some v)
  now1 : ∀ x ∈ (["unpack", "setback"] : List Str), ∃ v, PySem.W.nsIn K (ga K "SET_NOW") x = some (some v)
  back1 : ∀ x ∈ (["unpack", "setback"] : List Str), ∃ v, PySem.W.nsIn K (ga K "SET_BACK") x = some (some v)
  back0 : ∀ x ∈ (["make", "read", "write", "rename", "touch"] : List Str), PySem.W.nsIn K (ga K "SET_BACK") x = some none
/-- a deed's items -/
inductive Dd : List V → Prop where
  | one {w : Str} (h : w ∈ (["make", "read", "write", "rename", "touch"] : List Str)) : Dd [.str w]
  | two {w : Str} {b : Int} (h : w ∈ (["unpack", "setback"] : List Str)) (h1 : 1 ≤ b) (h2 : b ≤ 1000000000) : Dd [.str w, .int b]
def spTime : Sp := fun vs H Q _ => ∃ n : Int, vs = [.int n] ∧ 1 ≤ n ∧ n ≤ 1000000000 ∧ Q (.bl true) H
def spDeed : Sp := fun vs H Q _ => ∃ (a : Addr) (xs : List V), vs = [.ref a] ∧ H a = some (.tup xs) ∧ Dd xs ∧ ∀ H', Ch [] H H' → Q (.bl true) H'
/-- what a deed sets, and how far back -/
inductive Bk : List V → List (Key × V) → Prop where
  | make : Bk [.str "make"] [(.inr "read", .int 0), (.inr "written", .int 0), (.inr "changed", .int 0)]
  | read : Bk [.str "read"] []
  | write : Bk [.str "write"] [(.inr "written", .int 0), (.inr "changed", .int 0)]
  | rename : Bk [.str "rename"] [(.inr "changed", .int 0)]
  | touch : Bk [.str "touch"] [(.inr "read", .int 0), (.inr "written", .int 0), (.inr "changed", .int 0)]
  | unpack {b : Int} (h1 : 1 ≤ b) (h2 : b ≤ 1000000000) : Bk [.str "unpack", .int b] [(.inr "read", .int 0), (.inr "written", .int b), (.inr "changed", .int 0)]
  | setback {b : Int} (h1 : 1 ≤ b) (h2 : b ≤ 1000000000) : Bk [.str "setback", .int b] [(.inr "read", .int b), (.inr "written", .int b), (.inr "changed", .int 0)]
theorem Bk.dd {xs : List V} {kvs : List (Key × V)} (h : Bk xs kvs) : Dd xs := by
  cases h with
  | make => exact .one (by decide)
  | read => exact .one (by decide)
  | write => exact .one (by decide)
  | rename => exact .one (by decide)
  | touch => exact .one (by decide)
  | unpack h1 h2 => exact .two (by decide) h1 h2
  | setback h1 h2 => exact .two (by decide) h1 h2
def spMakes : Sp := fun vs H Q _ => ∃ (a : Addr) (xs : List V) (kvs : List (Key × V)), vs = [.ref a] ∧ H a = some (.tup xs) ∧ Bk xs kvs ∧ ∀ H', Ch [] H H' → Q (.bl (inV (xs.getD 0 .non) [.str "make", .str "unpack"])) H'
def spBacks : Sp := fun vs H Q _ => ∃ (a : Addr) (xs : List V) (kvs : List (Key × V)), vs = [.ref a] ∧ H a = some (.tup xs) ∧ Bk xs kvs ∧ ∀ p H', H p = none → Ch [] H H' → H' p = some (.dK kvs) → Q (.ref p) H'
section
open He
variable {P : Program} {w : World} {K : PySem.W.Frag} {mg : Str → Option Value} {base : Heap} {f : Addr} {fd : FuncData}
theorem use_time {n : Int} {H : Hp} {Q : VK} {E : XK} (h1 : 1 ≤ n) (h2 : n ≤ 1000000000) (q : Q (.bl true) H) : spTime [.int n] H Q E := ⟨n, rfl, h1, h2, q⟩
local macro_rules | `(tactic| purse 7001 => fail) => `(tactic| first
  | (with_reducible refine use_whole ?_)
  | ((with_reducible refine' use_time ?a0 ?a1 ?_); (case a0 => (purse 7011 => fail)); (case a1 => (purse 7011 => fail))))
theorem ok_time (F : FnP K "is_time" "is_time" s_is_time f fd) (T : TD K w mg) (D_is_whole : Dn P w K mg base 2 (ga K "is_whole") ["value"] spWhole) : FnOk P w K mg base (L2.CX P w) 4 f fd ["value"] spTime := by
  refine F.ok c_is_time (fun vs H Q E h => ?_) (fun cdv A outer s H vs Q E hr h => ⟨_, pss_one (ps_ret (pe_and (pe_dn D_is_whole (rm hr) rfl T.g_is_whole (passes_call (takes_of rfl rfl rfl rfl) fun _ _ _ _ h => h) (pa_cons (pv 0) (pa_nil))) (pe_one (pe_chain op_le op_le (pe_int) (pv 0) (pe_op op_pow (pe_int) (pe_int)))))), ?_⟩)
  · obtain ⟨n, rfl, _⟩ := h
    rfl
  · obtain ⟨n, rfl, h1, h2, k⟩ := h
    (purse 7012 => fail)
    (purse 7015 => fail)
    (purse 7012 => fail)
    (purse 7015 => fail)
    (purse 7012 => fail)
    refine g_pow10_9 ?_
    (purse 7012 => fail)
    rw [decide_eq_true h2]
    exact k
theorem ok_deed (F : FnP K "is_deed" "is_deed" s_is_deed f fd) (T : TD K w mg) (D_is_time : Dn P w K mg base 4 (ga K "is_time") ["value"] spTime) : FnOk P w K mg base (L2.CX P w) 6 f fd ["value"] spDeed := by
  refine F.ok c_is_deed (fun vs H Q E h => ?_) (fun cdv A outer s H vs Q E hr h => ⟨_, pss_cons (ps_if (PW.pt (pw_or (pt_not (pt_val (pe_callB call_isi (by rfl) T.z_isinstance (by decide +kernel) (pa_cons (pv 0) (pa_cons (pe_bltn (v := .ty "tuple") rfl T.z_tuple (by decide +kernel) rfl) (pa_nil)))))) (pw_or1 (pt_cmpR op_notIn_seq (pe_callB cl_len (by rfl) T.z_len (by decide +kernel) (pa_cons (pv 0) (pa_nil))) (pe_tup (pa_cons (pe_int) (pa_cons (pe_int) (pa_nil)))) (by rfl)))))
      (pss_one (ps_ret (pe_bl)))
      (pss_nil))
      (pss_cons (ps_set (i := 1) c_is_deed.nd rfl (Or.inl rfl) (pe_ix ix_tup (pv 0) (pe_int) (fun _ _ => rfl)))
      (pss_cons (ps_if (PW.pt (pw_or (pt_not (pt_val (pe_callB call_isi (by rfl) T.z_isinstance (by decide +kernel) (pa_cons (pv 1) (pa_cons (pe_bltn (v := .ty "str") rfl T.z_str (by decide +kernel) rfl) (pa_nil)))))) (pw_or1 (pt_cmpR (op_notInK T.dn) (pv 1) (pe_gc rfl T.v_SET_NOW) (by rfl)))))
      (pss_one (ps_ret (pe_bl)))
      (pss_nil))
      (pss_cons (ps_if (pt_cmpR (op_inK T.db) (pv 1) (pe_gc rfl T.v_SET_BACK) (by rfl))
      (pss_one (ps_ret (pe_and (pe_cmpR op_eq (pe_callB cl_len (by rfl) T.z_len (by decide +kernel) (pa_cons (pv 0) (pa_nil))) (pe_int) (nomark _)) (pe_one (pe_dn D_is_time (rm hr) rfl T.g_is_time (passes_call (takes_of rfl rfl rfl rfl) fun _ _ _ _ h => h) (pa_cons (pe_ix ix_tup (pv 0) (pe_int) (fun _ _ => rfl)) (pa_nil)))))))
      (pss_nil))
      (pss_one (ps_ret (pe_cmpR op_eq (pe_callB cl_len (by rfl) T.z_len (by decide +kernel) (pa_cons (pv 0) (pa_nil))) (pe_int) (nomark _))))))), ?_⟩)
  · obtain ⟨a, xs, rfl, _⟩ := h
    rfl
  · obtain ⟨a, xs, rfl, ha, hd, k⟩ := h
    have S : Sh H (fun _ => False) H [(a, .tup xs, false)] := Sh.start.know ha (fun _ h => nomatch h)
    (purse 7012 => fail)
    refine g_isi (.ty "tuple") (.base (.tup ha)) (kit_ty (b := "tuple") (r := true) (by decide +kernel)) ?_
    (purse 7012 => fail)
    (purse 7016 => fail)
    (purse 7012 => fail)
    refine g_lenT (SqT.of ha) ?_
    (purse 7012 => fail)
    refine g_ninT (r := true) (by (purse 7003 => fail)) rfl rfl (by cases hd <;> rfl) ?_
    (purse 7012 => fail)
    (purse 7016 => fail)
    (purse 7012 => fail)
    cases hd with
    | one hw =>
      refine g_ixT (by (purse 7003 => fail)) rfl ?_
      (purse 7012 => fail)
      refine g_isi (.ty "str") (.base (.str _)) (kit_ty (b := "str") (r := true) (by decide +kernel)) ?_
      (purse 7012 => fail)
      (purse 7016 => fail)
      (purse 7012 => fail)
      obtain ⟨v, hv⟩ := T.now0 _ hw
      refine g_ninK hv ?_
      (purse 7012 => fail)
      (purse 7016 => fail)
      (purse 7012 => fail)
      refine g_inK (T.back0 _ hw) ?_
      (purse 7012 => fail)
      (purse 7016 => fail)
      (purse 7012 => fail)
      refine g_lenT (SqT.of (by (purse 7003 => fail))) ?_
      (purse 7012 => fail)
      exact k _ (by (purse 7006 => fail))
    | two hw h1 h2 =>
      refine g_ixT (by (purse 7003 => fail)) rfl ?_
      (purse 7012 => fail)
      refine g_isi (.ty "str") (.base (.str _)) (kit_ty (b := "str") (r := true) (by decide +kernel)) ?_
      (purse 7012 => fail)
      (purse 7016 => fail)
      (purse 7012 => fail)
      obtain ⟨v, hv⟩ := T.now1 _ hw
      refine g_ninK hv ?_
      (purse 7012 => fail)
      (purse 7016 => fail)
      (purse 7012 => fail)
      obtain ⟨v2, hv2⟩ := T.back1 _ hw
      refine g_inK hv2 ?_
      (purse 7012 => fail)
      (purse 7015 => fail)
      (purse 7012 => fail)
      refine g_lenT (SqT.of (by (purse 7003 => fail))) ?_
      (purse 7012 => fail)
      (purse 7015 => fail)
      (purse 7012 => fail)
      refine g_ixT (by (purse 7003 => fail)) rfl ?_
      (purse 7012 => fail)
      exact k _ (by (purse 7006 => fail))
theorem use_deed {H0 H : Hp} {M : Addr → Prop} {l : List Ent} {a : Addr} {xs : List V} {Q : VK} {E : XK} (S : Sh H0 M H l) (o : On l a (.tup xs)) (hd : Dd xs) (q : ∀ H', Sh H0 M H' l → Q (.bl true) H') : spDeed [.ref a] H Q E :=
  ⟨a, xs, rfl, S.has_ o, hd, fun H' c => q H' (S.ch0 c)⟩
theorem ok_makes (F : FnP K "makes" "makes" s_makes f fd) (T : TD K w mg) (D_is_deed : Dn P w K mg base 6 (ga K "is_deed") ["value"] spDeed) : FnOk P w K mg base (L2.CX P w) 8 f fd ["value"] spMakes := by
  refine F.ok c_makes (fun vs H Q E h => ?_) (fun cdv A outer s H vs Q E hr h => ⟨_, pss_one (ps_ret (pe_and (pe_dn D_is_deed (rm hr) rfl T.g_is_deed (passes_call (takes_of rfl rfl rfl rfl) fun _ _ _ _ h => h) (pa_cons (pv 0) (pa_nil))) (pe_one (pe_cmpR op_in_seq (pe_ix ix_tup (pv 0) (pe_int) (fun _ _ => rfl)) (pe_tup (pa_cons (pe_str) (pa_cons (pe_str) (pa_nil)))) (by rfl))))), ?_⟩)
  · obtain ⟨a, xs, kvs, rfl, _⟩ := h
    rfl
  · obtain ⟨a, xs, kvs, rfl, ha, hd, k⟩ := h
    have S : Sh H (fun _ => False) H [(a, .tup xs, false)] := Sh.start.know ha (fun _ h => nomatch h)
    (purse 7012 => fail)
    refine use_deed S (by (purse 7004 => fail)) hd.dd fun H' S' => ?_
    (purse 7012 => fail)
    (purse 7015 => fail)
    (purse 7012 => fail)
    cases hd <;> (refine g_ixT (by (purse 7003 => fail)) rfl ?_; (purse 7012 => fail); refine g_inT (by (purse 7003 => fail)) rfl rfl rfl ?_; exact k _ (by (purse 7006 => fail)))
theorem end_dK {H H' : Hp} {l : List Ent} {Q : VK} {p : Addr} {kvs : List (Key × V)} (S : Sh H (fun _ => False) H' l) (m : (p, .dK kvs, true) ∈ l) (k : ∀ p H', H p = none → Ch [] H H' → H' p = some (.dK kvs) → Q (.ref p) H') : Q (.ref p) H' :=
  k p H' ((S.mu _ m rfl).elim False.elim id) (S.out fun _ h => h.elim) (S.has _ m)
local macro_rules | `(tactic| purse 7023 => fail) => `(tactic| (repeat (first | exact List.mem_cons_self | apply List.mem_cons_of_mem)))
local macro_rules | `(tactic| purse 7024 => fail) => `(tactic| ((purse 7012 => fail); refine g_ixKr (TD.dn (by assumption)) (by assumption) ?_; (purse 7012 => fail); refine g_inKT (by assumption) rfl rfl rfl ?_; (purse 7012 => fail)))
local macro_rules | `(tactic| purse 7025 => fail) => `(tactic| ((purse 7015 => fail); (purse 7012 => fail); refine g_setD (by assumption) (by (purse 7005 => fail)) rfl rfl ?_; intro _ _; (purse 7012 => fail)))
local macro_rules | `(tactic| purse 7026 => fail) => `(tactic| ((purse 7016 => fail); (purse 7012 => fail); (first | refine g_kgR (by assumption) ?_ | refine g_kg0 (by assumption) ?_); (purse 7012 => fail); (first | refine g_inKT (by assumption) rfl rfl rfl ?_ | refine g_inT (by (purse 7003 => fail)) rfl rfl rfl ?_); (purse 7012 => fail)))
local macro_rules | `(tactic| purse 7027 => fail) => `(tactic| ((purse 7016 => fail); (purse 7012 => fail)))
local macro_rules | `(tactic| purse 7028 => fail) => `(tactic| ((purse 7015 => fail); (purse 7012 => fail); refine g_ixT (by (purse 7003 => fail)) rfl ?_; (purse 7012 => fail); refine g_setD (by assumption) (by (purse 7005 => fail)) rfl rfl ?_; intro _ _; (purse 7012 => fail)))
local macro_rules | `(tactic| purse 7029 => fail) => `(tactic| ((purse 7024 => fail); first | (purse 7025 => fail) | ((purse 7026 => fail); first | (purse 7027 => fail) | (purse 7028 => fail))))
local macro_rules | `(tactic| purse 7030 => fail) => `(tactic| (refine g_ixT (by (purse 7003 => fail)) rfl ?_; (purse 7012 => fail); refine g_dnew (by assumption) ?_; intro p _ _ _; (purse 7012 => fail); refine g_turn (TD.marks (by assumption)) ?_; (purse 7029 => fail); (purse 7029 => fail); (purse 7029 => fail); refine end_dK (by assumption) (by (purse 7023 => fail)) (by assumption)))
theorem ok_backs (F : FnP K "backs" "backs" s_backs f fd) (T : TD K w mg) (D_is_deed : Dn P w K mg base 6 (ga K "is_deed") ["value"] spDeed) : FnOk P w K mg base (L2.CX P w) 8 f fd ["deed"] spBacks := by
  refine F.ok c_backs (fun vs H Q E h => ?_) (fun cdv A outer s H vs Q E hr h => ⟨_, pss_cons (ps_if (pt_not (pt_val (pe_dn D_is_deed (rm hr) rfl T.g_is_deed (passes_call (takes_of rfl rfl rfl rfl) fun _ _ _ _ h => h) (pa_cons (pv 0) (pa_nil)))))
      (pss_one (ps_never))
      (pss_nil))
      (pss_cons (ps_set (i := 1) c_backs.nd rfl (Or.inl rfl) (pe_ix ix_tup (pv 0) (pe_int) (fun _ _ => rfl)))
      (pss_cons (ps_set (i := 2) c_backs.nd rfl (Or.inl rfl) (pe_dnewK))
      (pss_cons (ps_for (passes_of rfl) rfl (pi_tup (pe_gc rfl T.v_MARKS)) (pg_name (i := 3) c_backs.nd rfl (Or.inl rfl))
      (pss_one (ps_if (pt_cmpR op_in_seq (pv 3) (pe_ix ix_kdict (pe_gc rfl T.v_SET_NOW) (pv 1) (fun _ _ => rfl)) (by rfl))
      (pss_one (ps_asg (pe_int) (pg_sub (pv 2) (pv 3) (set_dict (hu_of hr)))))
      (pss_one (ps_if (pt_cmpR op_in_seq (pv 3) (pe_kget T.db ((pe_gc rfl T.v_SET_BACK)) ((pv 1)) ((pe_tup (pa_nil))) ⟨rfl, rfl, rfl, rfl⟩) (by rfl))
      (pss_one (ps_asg (pe_ix ix_tup (pv 0) (pe_int) (fun _ _ => rfl)) (pg_sub (pv 2) (pv 3) (set_dict (hu_of hr)))))
      (pss_nil))))))
      (pss_one (ps_ret (pv 2)))))), ?_⟩)
  · obtain ⟨a, xs, kvs, rfl, _⟩ := h
    rfl
  · obtain ⟨a, xs, kvs, rfl, ha, hd, k⟩ := h
    have S : Sh H (fun _ => False) H [(a, .tup xs, false)] := Sh.start.know ha (fun _ h => nomatch h)
    (purse 7012 => fail)
    refine use_deed S (by (purse 7004 => fail)) hd.dd fun H' S' => ?_
    (purse 7012 => fail)
    (purse 7016 => fail)
    (purse 7012 => fail)
    have hu : True := trivial
    cases hd with
    | make =>
      obtain ⟨t, e, kt⟩ := T.n_make
      have hb := T.back0 "make" (by decide)
      (purse 7030 => fail)
    | read =>
      obtain ⟨t, e, kt⟩ := T.n_read
      have hb := T.back0 "read" (by decide)
      (purse 7030 => fail)
    | write =>
      obtain ⟨t, e, kt⟩ := T.n_write
      have hb := T.back0 "write" (by decide)
      (purse 7030 => fail)
    | rename =>
      obtain ⟨t, e, kt⟩ := T.n_rename
      have hb := T.back0 "rename" (by decide)
      (purse 7030 => fail)
    | touch =>
      obtain ⟨t, e, kt⟩ := T.n_touch
      have hb := T.back0 "touch" (by decide)
      (purse 7030 => fail)
    | unpack h1 h2 =>
      obtain ⟨t, e, kt⟩ := T.n_unpack
      obtain ⟨t2, hb, kb⟩ := T.b_unpack
      (purse 7030 => fail)
    | setback h1 h2 =>
      obtain ⟨t, e, kt⟩ := T.n_setback
      obtain ⟨t2, hb, kb⟩ := T.b_setback
      (purse 7030 => fail)
end

/-! rules -/
open He in
structure TR (K : PySem.W.Frag) (w : World) (mg : Str → Option Value) : Prop where
  g_Rule : mg "Rule" = some (.ref (ga K "Rule"))
  g_is_whole : mg "is_whole" = some (.ref (ga K "is_whole"))
  cl : Cls K (ga K "Rule")
  nC : NoAttr K (ga K "Rule") "chosen"
  nW : NoAttr K (ga K "Rule") "wait"
def ru (w : Str) (v : V) : List (Str × V) := [("chosen", .str w), ("wait", v)]
def spRInit (C : Addr) : Sp := fun vs H Q _ => ∃ (p dx : Addr) (w : Str) (v : V), vs = [.ref p, .str w, v] ∧ H p = some (.ins C dx []) ∧ ∀ H', Ch [p] H H' → H' p = some (.ins C dx (ru w v)) → Q .non H'
def spRule0 (C : Addr) (w : Str) : Sp := fun vs H Q _ => vs = [] ∧ New C (ru w .non) H Q
def spSeldom (C : Addr) : Sp := fun vs H Q _ => ∃ n : Int, vs = [.int n] ∧ 1 ≤ n ∧ n ≤ 2000 ∧ New C (ru "seldom" (.int n)) H Q
section
open He
variable {P : Program} {w : World} {K : PySem.W.Frag} {mg : Str → Option Value} {base : Heap} {f : Addr} {fd : FuncData}
theorem ok_rinit (F : FnP K "__init__" "Rule.__init__" s_Rule___init__ f fd) (T : TR K w mg) : FnOk P w K mg base (L2.CX P w) 2 f fd ["self", "word", "after"] (spRInit (ga K "Rule")) := by
  refine F.ok c_Rule___init__ (fun vs H Q E h => ?_) (fun cdv A outer s H vs Q E hr h => ⟨_, pss_cons (ps_fld (pv 0) (pv 1) rfl)
      (pss_one (ps_fld (pv 0) (pv 2) rfl)), ?_⟩)
  · obtain ⟨p, dx, wd, v, rfl, _⟩ := h
    rfl
  · obtain ⟨p, dx, wd, v, rfl, hp, k⟩ := h
    have S : Sh H (fun b => b = p) H [(p, .ins (ga K "Rule") dx [], true)] := Sh.start.take hp rfl (fun _ h => nomatch h)
    (purse 7012 => fail)
    refine g_ksfld S (by (purse 7005 => fail)) T.cl T.nC (by decide) fun H1 S1 => ?_
    (purse 7012 => fail)
    refine g_ksfld S1 (by (purse 7005 => fail)) T.cl T.nW (by show 1 < 1000; decide) fun H' S' => ?_
    refine k H' (by (purse 7006 => fail)) (by (purse 7003 => fail))
theorem g_mkru {H0 : Hp} {M : Addr → Prop} {H : Hp} {l : List Ent} {C : Addr} {E : XK} {Q : VK} {wd : Str} {v : V} (S : Sh H0 M H l)
    (q : ∀ x dx H', Sh H0 M H' ((x, .ins C dx (ru wd v), true) :: l) → Q (.ref x) H') : kMake C (spRInit C) E Q [.str wd, v] H :=
  g_kmake (fs := ru wd v) S (fun x dx H1 Q' hx k => ⟨x, dx, wd, v, rfl, hx, k⟩) q
theorem end_newR {H H' : Hp} {l : List Ent} {C x dx : Addr} {fs : List (Str × V)} {Q : VK} (S : Sh H (fun _ => False) H' ((x, .ins C dx fs, true) :: l)) (k : New C fs H Q) : Q (.ref x) H' :=
  k x dx H' ((S.mu _ List.mem_cons_self rfl).elim False.elim id) (S.out fun _ h => h.elim) (S.has_ .here)
theorem ok_always (F : FnP K "always" "Rule.always" s_Rule_always f fd) (T : TR K w mg) (M_Rule : Mn P w K mg base 2 (ga K "Rule") ["self", "word", "after"] (spRInit (ga K "Rule"))) : FnOk P w K mg base (L2.CX P w) 5 f fd [] (spRule0 (ga K "Rule") "always") := by
  refine F.ok c_Rule_always (fun vs H Q E h => ?_) (fun cdv A outer s H vs Q E hr h => ⟨_, pss_one (ps_ret (pe_mn M_Rule (rm hr) rfl T.g_Rule (passes_call (takes_of rfl rfl rfl rfl) fun _ _ _ _ h => h) (pa_cons (pe_str) (pa_cons (pe_non) (pa_nil))))), ?_⟩)
  · obtain ⟨rfl, _⟩ := h
    rfl
  · obtain ⟨rfl, k⟩ := h
    have S : Sh H (fun _ => False) H [] := Sh.start
    (purse 7012 => fail)
    refine g_mkru S fun x dx H' S' => ?_
    exact end_newR S' k
theorem ok_never (F : FnP K "never" "Rule.never" s_Rule_never f fd) (T : TR K w mg) (M_Rule : Mn P w K mg base 2 (ga K "Rule") ["self", "word", "after"] (spRInit (ga K "Rule"))) : FnOk P w K mg base (L2.CX P w) 5 f fd [] (spRule0 (ga K "Rule") "never") := by
  refine F.ok c_Rule_never (fun vs H Q E h => ?_) (fun cdv A outer s H vs Q E hr h => ⟨_, pss_one (ps_ret (pe_mn M_Rule (rm hr) rfl T.g_Rule (passes_call (takes_of rfl rfl rfl rfl) fun _ _ _ _ h => h) (pa_cons (pe_str) (pa_cons (pe_non) (pa_nil))))), ?_⟩)
  · obtain ⟨rfl, _⟩ := h
    rfl
  · obtain ⟨rfl, k⟩ := h
    have S : Sh H (fun _ => False) H [] := Sh.start
    (purse 7012 => fail)
    refine g_mkru S fun x dx H' S' => ?_
    exact end_newR S' k
theorem ok_seldom (F : FnP K "seldom" "Rule.seldom" s_Rule_seldom f fd) (T : TR K w mg) (D_is_whole : Dn P w K mg base 2 (ga K "is_whole") ["value"] spWhole) (M_Rule : Mn P w K mg base 2 (ga K "Rule") ["self", "word", "after"] (spRInit (ga K "Rule"))) :
    FnOk P w K mg base (L2.CX P w) 5 f fd ["after"] (spSeldom (ga K "Rule")) := by
  refine F.ok c_Rule_seldom (fun vs H Q E h => ?_) (fun cdv A outer s H vs Q E hr h => ⟨_, pss_cons (ps_if (PW.pt (pw_or (pt_not (pt_val (pe_dn D_is_whole (rm hr) rfl T.g_is_whole (passes_call (takes_of rfl rfl rfl rfl) fun _ _ _ _ h => h) (pa_cons (pv 0) (pa_nil))))) (pw_or1 (pt_not (pt_chain op_le op_le (pe_int) (pv 0) (pe_int))))))
      (pss_one (ps_never))
      (pss_nil))
      (pss_one (ps_ret (pe_mn M_Rule (rm hr) rfl T.g_Rule (passes_call (takes_of rfl rfl rfl rfl) fun _ _ _ _ h => h) (pa_cons (pe_str) (pa_cons (pv 0) (pa_nil)))))), ?_⟩)
  · obtain ⟨n, rfl, _⟩ := h
    rfl
  · obtain ⟨n, rfl, h1, h2, k⟩ := h
    have S : Sh H (fun _ => False) H [] := Sh.start
    (purse 7012 => fail)
    refine use_whole ?_
    (purse 7018 => fail)
    (purse 7012 => fail)
    refine g_mkru S fun x dx H' S' => ?_
    exact end_newR S' k
end

/-! files and the calls of rules -/
open He in
structure TF (K : PySem.W.Frag) (w : World) (mg : Str → Option Value) : Prop where
  g_File : mg "File" = some (.ref (ga K "File"))
  g_AnyFile : mg "AnyFile" = some (.ref (ga K "AnyFile"))
  g_Moment : mg "Moment" = some (.ref (ga K "Moment"))
  g_is_moment : mg "is_moment" = some (.ref (ga K "is_moment"))
  g_seconds_of : mg "seconds_of" = some (.ref (ga K "seconds_of"))
  z_isinstance : mg "isinstance" = none
  z_dict : mg "dict" = none
  cl : Cls K (ga K "File")
  rcl : Cls K (ga K "Rule")
  nN : NoAttr K (ga K "File") "noted"
  nC : NoAttr K (ga K "Rule") "chosen"
  nW : NoAttr K (ga K "Rule") "wait"
  ic : C8.InsC K (ga K "File")
  kF : PySem.W.kitOne K (.ref (ga K "File")) (.ref (ga K "AnyFile")) = some true
  ki : PySem.W.kitOne K (.type "int") (.ref (ga K "Moment")) = some false
  icM : C8.InsC K (ga K "Moment")
  mnN : NoAttr K (ga K "Moment") "number"
/-- a file's fields -/
def fl (r d : Addr) (m : Int) (h : Bool) : List (Str × V) := [("ruling", .ref r), ("noted", .ref d), ("done_at", .int m), ("holding", .bl h)]
/-- the three marks -/
def mk3 (x y z : Int) : List (Key × V) := [(.inr "read", .int x), (.inr "written", .int y), (.inr "changed", .int z)]
/-- a rule, and what it tells -/
inductive RK where
  | always
  | never
  | seldom (k : Int)
def RK.fs : RK → List (Str × V)
  | always => ru "always" .non
  | never => ru "never" .non
  | seldom k => ru "seldom" (.int k)
def RK.told (x y z n : Int) : RK → Bool
  | always => true
  | never => false
  | seldom k => decide (x ≤ y) || (decide (x ≤ z) || decide (k ≤ n - x))
/-- a moment, as an integer or a Moment -/
inductive At (M : Addr) (H : Hp) : V → Int → Prop where
  | int (n : Int) : At M H (.int n) n
  | mom {p dp : Addr} {n : Int} (h : H p = some (.ins M dp (mo n))) : At M H (.ref p) n
/-- .. by what stands on the list -/
inductive AtL (M : Addr) (l : List Ent) : V → Int → Prop where
  | int (n : Int) : AtL M l (.int n) n
  | mom {p dp : Addr} {n : Int} (h : On l p (.ins M dp (mo n))) : AtL M l (.ref p) n
theorem AtL.at_ {M0 : Addr} {H0 H : Hp} {M : Addr → Prop} {l : List Ent} {v : V} {n : Int} (S : Sh H0 M H l) (a : AtL M0 l v n) : At M0 H v n := by
  cases a with
  | int => exact .int _
  | mom h => exact .mom (S.has_ h)
theorem AtL.next {M0 : Addr} {l : List Ent} {e : Ent} {v : V} {n : Int} (a : AtL M0 l v n) : AtL M0 (e :: l) v n := by
  cases a with
  | int => exact .int _
  | mom h => exact .mom (.next h)
theorem At.out {M0 : Addr} {H0 H : Hp} {M : Addr → Prop} {l : List Ent} {v : V} {n : Int} (S : Sh H0 M H l) (a : At M0 H0 v n) (hn : ∀ q dq, H0 q = some (.ins M0 dq (mo n)) → ¬ M q) : At M0 H v n := by
  cases a with
  | int => exact .int _
  | mom h => exact .mom (S.fr _ _ h (hn _ _ h))
def spSecs (M : Addr) : Sp := fun vs H Q _ => ∃ (v : V) (n : Int), vs = [v] ∧ At M H v n ∧ -1000000000000000000000000000000 ≤ n ∧ n ≤ 1000000000000000000000000000000 ∧ Q (.int n) H
def spMarks (C : Addr) : Sp := fun vs H Q _ => ∃ (a dx r d : Addr) (m : Int) (h : Bool) (kvs : List (Key × V)), vs = [.ref a] ∧ H a = some (.ins C dx (fl r d m h)) ∧ H d = some (.dK kvs) ∧ ∀ p H', H p = none → Ch [] H H' → H' p = some (.dK kvs) → Q (.ref p) H'
def spTold (R C : Addr) : Sp := fun vs H Q _ => ∃ (q dq a dx r d : Addr) (m x y z n : Int) (h : Bool) (k : RK), vs = [.ref q, .ref a, .int n] ∧ H q = some (.ins R dq k.fs) ∧ H a = some (.ins C dx (fl r d m h)) ∧ H d = some (.dK (mk3 x y z)) ∧ q ≠ a ∧
  -1000000000000000000000000000000 ≤ n ∧ n ≤ 1000000000000000000000000000000 ∧ ∀ H', Ch [] H H' → Q (.bl (k.told x y z n)) H'
section
open He
variable {P : Program} {w : World} {K : PySem.W.Frag} {mg : Str → Option Value} {base : Heap} {f : Addr} {fd : FuncData}
theorem ok_secs (F : FnP K "seconds_of" "seconds_of" s_seconds_of f fd) (T : TF K w mg) (D_is_moment : Dn P w K mg base 4 (ga K "is_moment") ["value"] spIsMo) : FnOk P w K mg base (L2.CX P w) 6 f fd ["value"] (spSecs (ga K "Moment")) := by
  refine F.ok c_seconds_of (fun vs H Q E h => ?_) (fun cdv A outer s H vs Q E hr h => ⟨_, pss_cons (ps_if (pt_val (pe_callB call_isi (by rfl) T.z_isinstance (by decide +kernel) (pa_cons (pv 0) (pa_cons (pe_glob (v := .ref _) rfl T.g_Moment rfl) (pa_nil)))))
      (pss_one (ps_ret (pe_fld (pv 0) rfl)))
      (pss_nil))
      (pss_cons (ps_if (pt_not (pt_val (pe_dn D_is_moment (rm hr) rfl T.g_is_moment (passes_call (takes_of rfl rfl rfl rfl) fun _ _ _ _ h => h) (pa_cons (pv 0) (pa_nil)))))
      (pss_one (ps_never))
      (pss_nil))
      (pss_one (ps_ret (pv 0)))), ?_⟩)
  · obtain ⟨v, n, rfl, _⟩ := h
    rfl
  · obtain ⟨v, n, rfl, ha, h1, h2, k⟩ := h
    cases ha with
    | int =>
      (purse 7012 => fail)
      refine g_isi (.own _) (.base (.int n)) T.ki ?_
      (purse 7012 => fail)
      (purse 7016 => fail)
      (purse 7012 => fail)
      refine use_ismo h1 h2 ?_
      (purse 7012 => fail)
      (purse 7016 => fail)
      (purse 7012 => fail)
      exact k
    | mom hp =>
      (purse 7012 => fail)
      refine g_isi (.own _) (.base (.ins hp T.icM.cl T.icM.ha T.icM.hn T.icM.htk T.icM.hm)) T.icM.me ?_
      (purse 7012 => fail)
      (purse 7015 => fail)
      (purse 7012 => fail)
      refine g_kfld (K := K) hp T.icM.cl T.mnN rfl ?_
      exact k
theorem ok_marks (F : FnP K "marks" "File.marks" s_File_marks f fd) (T : TF K w mg) : FnOk P w K mg base (L2.CX P w) 2 f fd ["self"] (spMarks (ga K "File")) := by
  refine F.ok c_File_marks (fun vs H Q E h => ?_) (fun cdv A outer s H vs Q E hr h => ⟨_, pss_one (ps_ret (pe_callTy cl_dictD (by rfl) T.z_dict (by decide +kernel) (pa_cons (pe_fld (pv 0) rfl) (pa_nil)))), ?_⟩)
  · obtain ⟨a, dx, r, d, m, h, kvs, rfl, _⟩ := h
    rfl
  · obtain ⟨a, dx, r, d, m, b, kvs, rfl, ha, hd, k⟩ := h
    have S : Sh H (fun _ => False) H [] := Sh.start
    have t1 := T.cl
    have t2 := T.nN
    (purse 7012 => fail)
    refine g_kfld (K := K) ha T.cl T.nN rfl ?_
    (purse 7012 => fail)
    refine g_dictD S hd fun p H' hp S' => ?_
    exact end_dK S' List.mem_cons_self k
theorem know0 {H0 H : Hp} {M : Addr → Prop} {l : List Ent} {p : Addr} {o : HO} (S : Sh H0 M H l) (h : H p = some o) (e : (l.all fun e => !e.2.2) = true) : Sh H0 M H ((p, o, false) :: l) :=
  S.know h fun x hx ht => by
    have := List.all_eq_true.mp e x hx
    rw [ht] at this
    cases this
theorem g_neS {i j : Str} {r : Bool} {H : Hp} {Q : VK} (e : decide (V.str i = V.str j) = r) (q : Q (.bl (!r)) H) : rNe (.str i) (.str j) H Q := ⟨rfl, by rw [e]; exact q⟩
theorem g_eqS {i j : Str} {r : Bool} {H : Hp} {Q : VK} (e : decide (V.str i = V.str j) = r) (q : Q (.bl r) H) : rEq (.str i) (.str j) H Q := ⟨rfl, by rw [e]; exact q⟩
theorem use_marks {H0 H : Hp} {M : Addr → Prop} {l : List Ent} {C a dx r d : Addr} {m : Int} {h : Bool} {kvs : List (Key × V)} {Q : VK} {E : XK} (S : Sh H0 M H l) (o : On l a (.ins C dx (fl r d m h))) (od : On l d (.dK kvs))
    (q : ∀ p H', H p = none → Sh H0 M H' ((p, .dK kvs, true) :: l) → Q (.ref p) H') : spMarks C [.ref a] H Q E :=
  ⟨a, dx, r, d, m, h, kvs, rfl, S.has_ o, S.has_ od, fun p H' hp c e => q p H' hp (S.add c hp e)⟩
theorem ok_told (F : FnP K "__call__" "Rule.__call__" s_Rule___call__ f fd) (T : TF K w mg) (D_seconds_of : Dn P w K mg base 6 (ga K "seconds_of") ["value"] (spSecs (ga K "Moment"))) (H_marks : Hn P w K mg base 2 (ga K "File") "marks" (spMarks (ga K "File"))) :
    FnOk P w K mg base (L2.CX P w) 8 f fd ["self", "file", "at"] (spTold (ga K "Rule") (ga K "File")) := by
  refine F.ok c_Rule___call__ (fun vs H Q E h => ?_) (fun cdv A outer s H vs Q E hr h => ⟨_, pss_cons (ps_if (pt_not (pt_val (pe_callB call_isi (by rfl) T.z_isinstance (by decide +kernel) (pa_cons (pv 1) (pa_cons (pe_glob (v := .ref _) rfl T.g_AnyFile rfl) (pa_nil))))))
      (pss_one (ps_never))
      (pss_nil))
      (pss_cons (ps_set (i := 3) c_Rule___call__.nd rfl (Or.inl rfl) (pe_dn D_seconds_of (rm hr) rfl T.g_seconds_of (passes_call (takes_of rfl rfl rfl rfl) fun _ _ _ _ h => h) (pa_cons (pv 2) (pa_nil))))
      (pss_cons (ps_if (pt_cmpR op_ne (pe_fld (pv 0) rfl) (pe_str) (nomark _))
      (pss_one (ps_ret (pe_cmpR op_eq (pe_fld (pv 0) rfl) (pe_str) (nomark _))))
      (pss_nil))
      (pss_cons (ps_set (i := 4) c_Rule___call__.nd rfl (Or.inl rfl) (pe_dm0 H_marks (rm hr) (passes_call (takes_of rfl rfl rfl rfl) fun _ _ _ _ h => h) (pv 1)))
      (pss_cons (ps_set (i := 5) c_Rule___call__.nd rfl (Or.inl rfl) (pe_dget (hu_of hr) ((pv 4)) ((pe_str)) (fun _ _ => rfl)))
      (pss_one (ps_ret (pe_or (pe_cmpR op_le (pv 5) (pe_dget (hu_of hr) ((pv 4)) ((pe_str)) (fun _ _ => rfl)) (nomark _)) (pe_or (pe_cmpR op_le (pv 5) (pe_dget (hu_of hr) ((pv 4)) ((pe_str)) (fun _ _ => rfl)) (nomark _)) (pe_one (pe_cmpR op_ge (pe_op op_sub (pv 3) (pv 5)) (pe_fld (pv 0) rfl) (nomark _))))))))))), ?_⟩)
  · obtain ⟨q, dq, a, dx, r, d, m, x, y, z, n, h, k, rfl, _⟩ := h
    rfl
  · obtain ⟨q, dq, a, dx, r, d, m, x, y, z, n, b, k, rfl, hq, ha, hd, hqa, h1, h2, w⟩ := h
    have S : Sh H (fun _ => False) H [(q, .ins (ga K "Rule") dq k.fs, false), (a, .ins (ga K "File") dx (fl r d m b), false), (d, .dK (mk3 x y z), false)] := know0 (know0 (know0 Sh.start hd rfl) ha rfl) hq rfl
    have t1 := T.rcl
    have t2 := T.nC
    have t3 := T.nW
    (purse 7012 => fail)
    refine g_isi (.own _) (.base (.ins ha T.ic.cl T.ic.ha T.ic.hn T.ic.htk T.ic.hm)) T.kF ?_
    (purse 7012 => fail)
    (purse 7016 => fail)
    (purse 7012 => fail)
    refine ⟨_, n, rfl, .int n, h1, h2, ?_⟩
    (purse 7012 => fail)
    cases k with
    | always =>
      refine g_kfld (K := K) hq T.rcl T.nC rfl ?_
      (purse 7012 => fail)
      refine g_neS (r := false) (by decide) ?_
      (purse 7012 => fail)
      (purse 7015 => fail)
      (purse 7012 => fail)
      refine g_eqS (r := true) (by decide) ?_
      exact w H Ch.rfl'
    | never =>
      refine g_kfld (K := K) hq T.rcl T.nC rfl ?_
      (purse 7012 => fail)
      refine g_neS (r := false) (by decide) ?_
      (purse 7012 => fail)
      (purse 7015 => fail)
      (purse 7012 => fail)
      refine g_eqS (r := false) (by decide) ?_
      exact w H Ch.rfl'
    | seldom k =>
      refine g_kfld (K := K) hq T.rcl T.nC rfl ?_
      (purse 7012 => fail)
      refine g_neS (r := true) (by decide) ?_
      (purse 7012 => fail)
      (purse 7016 => fail)
      (purse 7012 => fail)
      refine use_marks S (by (purse 7004 => fail)) (by (purse 7004 => fail)) fun p H' hp S' => ?_
      (purse 7012 => fail)
      refine g_dg (v := .int x) (S'.has_ .here) rfl ?_
      (purse 7012 => fail)
      refine g_dg (v := .int y) (S'.has_ .here) rfl ?_
      (purse 7012 => fail)
      have w1 : Q (.bl (decide (x ≤ y) || (decide (x ≤ z) || decide (k ≤ n - x)))) H' := w H' (S'.out fun _ h => h.elim)
      by_cases c1 : x ≤ y
      · rw [decide_eq_true c1] at w1 ⊢
        exact w1
      · rw [decide_eq_false c1] at w1 ⊢
        (purse 7016 => fail)
        (purse 7012 => fail)
        refine g_dg (v := .int z) (S'.has_ .here) rfl ?_
        (purse 7012 => fail)
        by_cases c2 : x ≤ z
        · rw [decide_eq_true c2] at w1 ⊢
          exact w1
        · rw [decide_eq_false c2] at w1 ⊢
          (purse 7016 => fail)
          (purse 7012 => fail)
          exact w1
end

/-! whole numbers of any data -/
def wholeB : PyData → Bool
  | .int _ => true
  | _ => false
def spWholeD : Sp := fun vs H Q _ => ∃ v d, vs = [v] ∧ Pv H v d ∧ Q (.bl (wholeB d)) H
theorem kit_int : ∀ d : PyData, kitB (tyN d) "int" = some (match d with | .int _ => true | .bool _ => true | _ => false)
  | .none => (by decide +kernel : kitB "NoneType" "int" = some false)
  | .bool _ => (by decide +kernel : kitB "bool" "int" = some true)
  | .int _ => (by decide +kernel : kitB "int" "int" = some true)
  | .str _ => (by decide +kernel : kitB "str" "int" = some false)
  | .list _ => (by decide +kernel : kitB "list" "int" = some false)
  | .tuple _ => (by decide +kernel : kitB "tuple" "int" = some false)
  | .dict _ => (by decide +kernel : kitB "dict" "int" = some false)
theorem kit_bool : ∀ d : PyData, kitB (tyN d) "bool" = some (match d with | .bool _ => true | _ => false)
  | .none => (by decide +kernel : kitB "NoneType" "bool" = some false)
  | .bool _ => (by decide +kernel : kitB "bool" "bool" = some true)
  | .int _ => (by decide +kernel : kitB "int" "bool" = some false)
  | .str _ => (by decide +kernel : kitB "str" "bool" = some false)
  | .list _ => (by decide +kernel : kitB "list" "bool" = some false)
  | .tuple _ => (by decide +kernel : kitB "tuple" "bool" = some false)
  | .dict _ => (by decide +kernel : kitB "dict" "bool" = some false)
theorem use_wholeD {H : Hp} {v : V} {d : PyData} {Q : VK} {E : XK} (h : Pv H v d) (q : Q (.bl (wholeB d)) H) : spWholeD [v] H Q E := ⟨v, d, rfl, h, q⟩
section
open He
variable {P : Program} {w : World} {K : PySem.W.Frag} {mg : Str → Option Value} {base : Heap} {f : Addr} {fd : FuncData}
theorem ok_wholeD (F : FnP K "is_whole" "is_whole" s_is_whole f fd) (T : TD K w mg) : FnOk P w K mg base (L2.CX P w) 2 f fd ["value"] spWholeD := by
  refine F.ok c_is_whole (fun vs H Q E h => ?_) (fun cdv A outer s H vs Q E hr h => ⟨_, pss_one (ps_ret (pe_and (pe_callB call_isi (by rfl) T.z_isinstance (by decide +kernel) (pa_cons (pv 0) (pa_cons (pe_bltn (v := .ty "int") rfl T.z_int (by decide +kernel) rfl) (pa_nil)))) (pe_one (pe_not (pe_callB call_isi (by rfl) T.z_isinstance (by decide +kernel) (pa_cons (pv 0) (pa_cons (pe_bltn (v := .ty "bool") rfl T.z_bool (by decide +kernel) rfl) (pa_nil)))))))), ?_⟩)
  · obtain ⟨v, d, rfl, _⟩ := h
    rfl
  · obtain ⟨v, d, rfl, hp, k⟩ := h
    (purse 7012 => fail)
    refine g_isP hp (kit_int d) ?_
    (purse 7012 => fail)
    cases d with
    | int n =>
      (purse 7015 => fail)
      (purse 7012 => fail)
      refine g_isP hp (kit_bool _) ?_
      (purse 7012 => fail)
      exact k
    | bool b =>
      (purse 7015 => fail)
      (purse 7012 => fail)
      refine g_isP hp (kit_bool _) ?_
      (purse 7012 => fail)
      exact k
    | _ => exact iteF k
end

end K1
namespace K1
open PySem PySem.Spec PyProof.Rows L2 AF
open C8 (pe_gc)
local macro_rules | `(tactic| purse 7003 => fail) => `(tactic| k_dflt (refine Sh.has_ (by assumption) ?_; repeat (first | exact On.here | apply On.next)))
local macro_rules | `(tactic| purse 7004 => fail) => `(tactic| k_dflt (repeat (first | exact On.here | apply On.next)))
local macro_rules | `(tactic| purse 7005 => fail) => `(tactic| (repeat (first | exact Rep.here | apply Rep.next)))
local macro_rules | `(tactic| purse 7006 => fail) => `(tactic| (exact Sh.out (by assumption) (fun b h => by simp [h])))
local macro_rules | `(tactic| purse 7007 => fail) => `(tactic| k_dflt (first | ((with_reducible refine cdivw ?_ ?_) <;> omega) | ((with_reducible show CDiv _ _); constructor <;> omega) | ((with_reducible show CMul _ _); (first | (left; constructor <;> omega) | (right; constructor <;> omega))) | (show (0 : Int) < _; omega)))
local macro_rules | `(tactic| purse 7008 => fail) => `(tactic| first | exact Kd.int _ | exact Kd.bl _ | exact Kd.non | exact Kd.str _ | exact Kd.ins (by (purse 7003 => fail)) | exact Kd.lst (by (purse 7003 => fail)) | exact Kd.tup (by (purse 7003 => fail)))
local macro_rules | `(tactic| purse 7009 => fail) => `(tactic| first | exact DpAll.nil | (apply DpAll.cons; (purse 7010 => fail); (purse 7009 => fail)))
local macro_rules | `(tactic| purse 7010 => fail) => `(tactic| first | exact Dp.int _ | exact Dp.bl _ | exact Dp.non | exact Dp.str _ | (refine dp_int ?_; omega) | (refine dp_bl ?_; simp only [decide_eq_decide]; omega) | (apply dp_lst; (purse 7003 => fail); (purse 7009 => fail)) | (apply dp_tup; (purse 7003 => fail); (purse 7009 => fail)))
local macro_rules | `(tactic| purse 7011 => fail) => `(tactic| first | assumption | omega)
local macro_rules | `(tactic| purse 7001 => fail) => `(tactic| fail "no use")
local macro_rules | `(tactic| purse 7002 => fail) => `(tactic| first
  | (with_reducible refine set_go ?_)
  | (with_reducible refine Step.go ?_)
  | (with_reducible first | refine g_pow10_6 ?_ | refine g_pow10_7 ?_ | refine g_pow10_18 ?_ | refine g_pow10_29 ?_ | refine g_pow10_30 ?_)
  | ((with_reducible refine' g_I ?a0 ?_); (case a0 => (purse 7007 => fail)))
  | ((with_reducible refine' g_ixL ?a0 ?a1 ?_); (case a0 => (purse 7003 => fail)); (case a1 => k_dflt (exact rfl)))
  | ((with_reducible refine' g_kfld ?a0 ?a1 ?a2 ?a3 ?_); (case a0 => (purse 7003 => fail)); (case a1 => k_dflt (assumption)); (case a2 => k_dflt (assumption)); (case a3 => k_dflt (exact rfl)))
  | ((with_reducible refine' g_kprop ?a0 ?_); (case a0 => (purse 7003 => fail)))
  | ((with_reducible refine' g_kmeth ?a0 ?a1 ?_); (case a0 => (purse 7003 => fail)); (case a1 => k_dflt (exact rfl)))
  | ((with_reducible refine' g_own ?a0 ?a1 ?a2 ?_); (case a0 => (purse 7003 => fail)); (case a1 => (purse 7008 => fail)); (case a2 => k_dflt (assumption)))
  | ((with_reducible refine' g_cmp ?a0 ?a1 ?a2 ?_); (case a0 => (purse 7003 => fail)); (case a1 => (purse 7008 => fail)); (case a2 => k_dflt (assumption)))
  | ((with_reducible refine' g_neq ?a0 ?a1 ?a2 ?_); (case a0 => (purse 7003 => fail)); (case a1 => (purse 7008 => fail)); (case a2 => k_dflt (assumption)))
  | ((with_reducible refine' g_right ?a0 ?_); (case a0 => (purse 7003 => fail)))
  | ((with_reducible refine' use_draw ?a0 ?a1 ?a2 ?a3 ?a4 ?_); (case a0 => assumption); (case a1 => intro _ _; (purse 7005 => fail)); (case a2 => assumption); (case a3 => (purse 7011 => fail)); (case a4 => (purse 7011 => fail)); intro _ _ _ _ _ _ _ _)
  | ((with_reducible refine' use_giveI ?a0 ?a1 ?a2 ?_); (case a0 => assumption); (case a1 => intro _ _; (purse 7005 => fail)); (case a2 => assumption); intro _ _ _ _ _ _ _ _)
  | ((with_reducible refine' use_source ?a0 ?a1 ?_); (case a0 => assumption); (case a1 => k_dflt (assumption)); intro _ _ _ _ _ _)
  | (with_reducible refine g_absN ?_; intro _ _)
  | (with_reducible refine g_maxN ?_; intro _ _ _ _)
  | (with_reducible refine g_minN ?_; intro _ _ _ _)
  | ((with_reducible refine' g_kR1 ?a0 ?a1 ?_); (case a0 => omega); (case a1 => omega))
  | ((with_reducible refine' g_neD ?a0 ?a1 ?a2 ?_); (case a0 => (purse 7010 => fail)); (case a1 => (purse 7010 => fail)); (case a2 => k_dflt (rfl)))
  | ((with_reducible refine' g_eqD ?a0 ?a1 ?a2 ?_); (case a0 => (purse 7010 => fail)); (case a1 => (purse 7010 => fail)); (case a2 => k_dflt (rfl)))
  | ((with_reducible refine' g_klst ?a0 ?a1 ?_); (case a0 => assumption); (case a1 => k_dflt (exact rfl)); intro _ _ _ _)
  | ((with_reducible refine' g_ktup ?a0 ?a1 ?_); (case a0 => assumption); (case a1 => k_dflt (exact rfl)); intro _ _ _ _)
  | ((with_reducible refine' g_setL ?a0 ?a1 ?a2 ?_); (case a0 => assumption); (case a1 => (purse 7005 => fail)); (case a2 => k_dflt (exact rfl)); intro _ _)
  | ((with_reducible refine' g_unl3 ?a0 ?_); (case a0 => (purse 7003 => fail)))
  | (purse 7001 => fail))
local macro_rules | `(tactic| purse 7012 => fail) => `(tactic| ((try (with_reducible refine start_go ?_)); repeat (purse 7002 => fail)))
local macro_rules | `(tactic| purse 7013 => fail) => `(tactic| first | rfl | (refine decide_eq_true ?_; omega) | (simp only [Bool.not_eq_true', Bool.not_eq_false', decide_eq_false_iff_not, decide_eq_true_eq, Bool.not_not, decide_eq_decide]; done) | (simp only [Bool.not_eq_true', Bool.not_eq_false', decide_eq_false_iff_not, decide_eq_true_eq, Bool.not_not, decide_eq_decide]; omega))
local macro_rules | `(tactic| purse 7014 => fail) => `(tactic| first | rfl | (refine decide_eq_false ?_; omega) | (simp only [Bool.not_eq_true', Bool.not_eq_false', decide_eq_false_iff_not, decide_eq_true_eq, Bool.not_not, decide_eq_decide]; done) | (simp only [Bool.not_eq_true', Bool.not_eq_false', decide_eq_false_iff_not, decide_eq_true_eq, Bool.not_not, decide_eq_decide]; omega))
local macro_rules | `(tactic| purse 7015 => fail) => `(tactic| ((refine g_yes ?h ?_); (case h => (purse 7013 => fail))))
local macro_rules | `(tactic| purse 7016 => fail) => `(tactic| ((refine g_no ?h ?_); (case h => (purse 7014 => fail))))
local macro_rules | `(tactic| purse 7017 => fail) => `(tactic| first | (purse 7015 => fail) | (purse 7016 => fail))
local macro_rules | `(tactic| purse 7018 => fail) => `(tactic| repeat ((purse 7012 => fail); (purse 7017 => fail)))
local macro_rules | `(tactic| purse 7019 => fail) => `(tactic| repeat (first | exact intIn_nil | refine intIn_cons (by omega) (by omega) ?_))
local macro_rules | `(tactic| purse 7020 => fail) => `(tactic| (simp only [List.length_cons, List.length_nil]; omega))
local macro_rules | `(tactic| purse 7021 => fail) => `(tactic| (refine g_two (fun c => ?_) (fun c => ?_) <;> first | (have c := of_decide_eq_true c) | (have c := of_decide_eq_false c) | skip))
local macro_rules | `(tactic| purse 7022 => fail) => `(tactic| ((purse 7018 => fail); (purse 7012 => fail); try ((purse 7021 => fail) <;> (purse 7022 => fail))))

/-! files: how they are made, changed and told -/
open He in
structure TF2 (K : PySem.W.Frag) (w : World) (mg : Str → Option Value) : Prop extends TF K w mg, TD K w mg where
  g_Rule : mg "Rule" = some (.ref (ga K "Rule"))
  g_backs : mg "backs" = some (.ref (ga K "backs"))
  z_list : mg "list" = none
  nR : NoAttr K (ga K "File") "ruling"
  nD : NoAttr K (ga K "File") "done_at"
  nH : NoAttr K (ga K "File") "holding"
  ci : CI K (ga K "Rule") (ma K (ga K "Rule") "__call__")
  icR : C8.InsC K (ga K "Rule")
  ceR : Cmp K .Eq (ga K "Rule") (ma K (ga K "Rule") "__eq__")
  nfR : PySem.W.notFirst K (ga K "Rule") (.ref (ga K "Rule")) = true
/-- the marks that a deed which makes leaves -/
inductive Mk3 (n : Int) : List V → Int → Int → Int → Prop where
  | make : Mk3 n [.str "make"] n n n
  | unpack {b : Int} (h1 : 1 ≤ b) (h2 : b ≤ 1000000000) : Mk3 n [.str "unpack", .int b] n (n - b) n
/-- what a deed later leaves, and tells -/
inductive Af (k : RK) (x y z n : Int) : List V → List V → Int → Int → Int → Prop where
  | make : Af k x y z n [.str "make"] [.str "read", .str "written", .str "changed"] n n n
  | touch : Af k x y z n [.str "touch"] [.str "read", .str "written", .str "changed"] n n n
  | write : Af k x y z n [.str "write"] [.str "written", .str "changed"] x n n
  | rename : Af k x y z n [.str "rename"] [.str "changed"] x y n
  | unpack {b : Int} : Af k x y z n [.str "unpack", .int b] [.str "read", .str "written", .str "changed"] n (n - b) n
  | setback {b : Int} : Af k x y z n [.str "setback", .int b] [.str "read", .str "written", .str "changed"] (n - b) (n - b) n
  | read1 (h : k.told x y z n = true) : Af k x y z n [.str "read"] [.str "read"] n y z
  | read0 (h : k.told x y z n = false) : Af k x y z n [.str "read"] [] x y z
/-- the marks that a deed shifts -/
inductive Sf (k : RK) (x y z n : Int) : List V → List (Key × V) → Prop where
  | other {xs : List V} {kvs : List (Key × V)} (h : Bk xs kvs) (hn : xs ≠ [.str "read"]) : Sf k x y z n xs kvs
  | read1 (h : k.told x y z n = true) : Sf k x y z n [.str "read"] [(.inr "read", .int 0)]
  | read0 (h : k.told x y z n = false) : Sf k x y z n [.str "read"] []
def heldBy (xs : List V) (h : Bool) : Bool := if inV (xs.getD 0 .non) [.str "make", .str "unpack"] = true then false else h
def Mo30 (n : Int) : Prop := -1000000000000000000000000000000 ≤ n ∧ n ≤ 1000000000000000000000000000000
def spFInit (R C M : Addr) : Sp := fun vs H Q _ => ∃ (p dx q dq t : Addr) (k : RK) (xs : List V) (v : V) (n x y z : Int), vs = [.ref p, .ref q, .ref t, v] ∧ At M H v n ∧ H p = some (.ins C dx []) ∧ H q = some (.ins R dq k.fs) ∧ H t = some (.tup xs) ∧ Mk3 n xs x y z ∧ Mo30 n ∧
  ∀ nd H', H nd = none → Ch [p] H H' → H' p = some (.ins C dx (fl q nd n false)) → H' nd = some (.dK (mk3 x y z)) → Q .non H'
def spShifts (R C : Addr) : Sp := fun vs H Q _ => ∃ (a dx r dr d t : Addr) (k : RK) (xs : List V) (kvs : List (Key × V)) (m n x y z : Int) (h : Bool), vs = [.ref a, .ref t, .int n] ∧ H a = some (.ins C dx (fl r d m h)) ∧ H r = some (.ins R dr k.fs) ∧ H d = some (.dK (mk3 x y z)) ∧ H t = some (.tup xs) ∧ Bk xs kvs ∧ Mo30 n ∧
  ∀ p kvs' H', H p = none → Ch [] H H' → H' p = some (.dK kvs') → Sf k x y z n xs kvs' → Q (.ref p) H'
def spDo (R C M : Addr) : Sp := fun vs H Q _ => ∃ (a dx r dr d t : Addr) (k : RK) (xs : List V) (kvs : List (Key × V)) (v : V) (m n x y z : Int) (h : Bool), vs = [.ref a, .ref t, v] ∧ At M H v n ∧ H a = some (.ins C dx (fl r d m h)) ∧ H r = some (.ins R dr k.fs) ∧ H d = some (.dK (mk3 x y z)) ∧ H t = some (.tup xs) ∧ Bk xs kvs ∧ Mo30 n ∧ m < n ∧
  ∀ p ps x' y' z' H', H p = none → Ch [a, d] H H' → H' a = some (.ins C dx (fl r d n (heldBy xs h))) → H' d = some (.dK (mk3 x' y' z')) → H' p = some (.lst ps) → Af k x y z n xs ps x' y' z' → Q (.ref p) H'
def spDouble (R C : Addr) : Sp := fun vs H Q _ => ∃ (a dx r dr d : Addr) (k : RK) (m x y z : Int) (h : Bool), vs = [.ref a] ∧ H a = some (.ins C dx (fl r d m h)) ∧ H r = some (.ins R dr k.fs) ∧ H d = some (.dK (mk3 x y z)) ∧ Mo30 m ∧
  ∀ b dy e H', H b = none → H e = none → b ≠ e → Ch [] H H' → H' b = some (.ins C dy (fl r e m h)) → H' e = some (.dK (mk3 x y z)) → Q (.ref b) H'
def spFGet (C M : Addr) : Sp := fun vs H Q _ => ∃ (a dx r d : Addr) (m x y z v : Int) (h : Bool) (s : Str), vs = [.ref a, .str s] ∧ H a = some (.ins C dx (fl r d m h)) ∧ H d = some (.dK (mk3 x y z)) ∧ ((s = "read" ∧ v = x) ∨ (s = "written" ∧ v = y) ∨ (s = "changed" ∧ v = z)) ∧ Mo30 v ∧ New M (mo v) H Q
/-- equal rules -/
def RK.eqb : RK → RK → Bool
  | always, always => true
  | never, never => true
  | seldom a, seldom b => decide (a = b)
  | _, _ => false
theorem RK.eqb_self (k : RK) : RK.eqb k k = true := by cases k <;> simp [RK.eqb]
def e3 (x y z x' y' z' : Int) : Bool := decide (x = x') && (decide (y = y') && (decide (z = z') && true))
def spREq (R : Addr) : Sp := fun vs H Q _ => ∃ (q dq q' dq' : Addr) (k k' : RK), vs = [.ref q, .ref q'] ∧ H q = some (.ins R dq k.fs) ∧ H q' = some (.ins R dq' k'.fs) ∧ Q (.bl (k.eqb k')) H
def spFEq (R C : Addr) : Sp := fun vs H Q _ => ∃ (a dx b dy r dr r' dr' d e : Addr) (k k' : RK) (m m' x y z x' y' z' : Int) (h h' : Bool), vs = [.ref a, .ref b] ∧ H a = some (.ins C dx (fl r d m h)) ∧ H b = some (.ins C dy (fl r' e m' h')) ∧ H r = some (.ins R dr k.fs) ∧ H r' = some (.ins R dr' k'.fs) ∧ H d = some (.dK (mk3 x y z)) ∧ H e = some (.dK (mk3 x' y' z')) ∧ Q (.bl (k.eqb k' && (e3 x y z x' y' z' && (decide (m = m') && decide (h = h'))))) H
def spLast (C : Addr) : Sp := fun vs H Q _ => ∃ (a dx r d : Addr) (m : Int) (h : Bool), vs = [.ref a] ∧ H a = some (.ins C dx (fl r d m h)) ∧ Q (.int m) H
def spHeld (C : Addr) : Sp := fun vs H Q _ => ∃ (a dx r d : Addr) (m : Int) (h : Bool), vs = [.ref a] ∧ H a = some (.ins C dx (fl r d m h)) ∧ Q (.bl h) H
section
open He
variable {P : Program} {w : World} {K : PySem.W.Frag} {mg : Str → Option Value} {base : Heap} {f : Addr} {fd : FuncData}
theorem ty_ru {H : Hp} {a dx : Addr} {fs : List (Str × V)} (T : TF2 K w mg) (h : H a = some (.ins (ga K "Rule") dx fs)) : TyX K H (.ref a) (.ref (ga K "Rule")) := .base (.ins h T.icR.cl T.icR.ha T.icR.hn T.icR.htk T.icR.hm)
theorem ty_fi {H : Hp} {a dx : Addr} {fs : List (Str × V)} (T : TF2 K w mg) (h : H a = some (.ins (ga K "File") dx fs)) : TyX K H (.ref a) (.ref (ga K "File")) := .base (.ins h T.ic.cl T.ic.ha T.ic.hn T.ic.htk T.ic.hm)
theorem RK.fs_ne (k : RK) : k.fs ≠ [] := by cases k <;> exact fun z => nomatch z
theorem use_makes {H0 H : Hp} {M : Addr → Prop} {l : List Ent} {a : Addr} {xs : List V} {kvs : List (Key × V)} {Q : VK} {E : XK} {r : Bool} (S : Sh H0 M H l) (o : On l a (.tup xs)) (hd : Bk xs kvs) (hr : inV (xs.getD 0 .non) [.str "make", .str "unpack"] = r) (q : ∀ H', Sh H0 M H' l → Q (.bl r) H') : spMakes [.ref a] H Q E :=
  ⟨a, xs, kvs, rfl, S.has_ o, hd, fun H' c => by rw [hr]; exact q H' (S.ch0 c)⟩
theorem use_backs {H0 H : Hp} {M : Addr → Prop} {l : List Ent} {a : Addr} {xs : List V} {kvs : List (Key × V)} {Q : VK} {E : XK} (S : Sh H0 M H l) (o : On l a (.tup xs)) (hd : Bk xs kvs) (q : ∀ p H', H p = none → Sh H0 M H' ((p, .dK kvs, true) :: l) → Q (.ref p) H') : spBacks [.ref a] H Q E :=
  ⟨a, xs, kvs, rfl, S.has_ o, hd, fun p H' hp c h => q p H' hp (S.add c hp h)⟩
theorem use_secs {M : Addr} {v : V} {n : Int} {H : Hp} {Q : VK} {E : XK} (a : At M H v n) (h : Mo30 n) (q : Q (.int n) H) : spSecs M [v] H Q E := ⟨v, n, rfl, a, h.1, h.2, q⟩
theorem use_told {H0 H : Hp} {M : Addr → Prop} {l : List Ent} {R C q dq a dx r d : Addr} {m x y z n : Int} {h : Bool} {k : RK} {Q : VK} {E : XK} (S : Sh H0 M H l) (oq : On l q (.ins R dq k.fs)) (oa : On l a (.ins C dx (fl r d m h))) (od : On l d (.dK (mk3 x y z))) (hne : q ≠ a) (hn : Mo30 n)
    (c : ∀ H', Sh H0 M H' l → Q (.bl (k.told x y z n)) H') : spTold R C [.ref q, .ref a, .int n] H Q E :=
  ⟨q, dq, a, dx, r, d, m, x, y, z, n, h, k, rfl, S.has_ oq, S.has_ oa, S.has_ od, hne, hn.1, hn.2, fun H' c1 => c H' (S.ch0 c1)⟩
theorem fl_ne_ru {k : RK} {r d : Addr} {m : Int} {h : Bool} : k.fs ≠ fl r d m h := by cases k <;> exact fun z => by simp [RK.fs, ru, fl] at z
local macro_rules | `(tactic| purse 7023 => fail) => `(tactic| (intro e he ht; simp only [List.mem_cons, List.not_mem_nil, or_false] at he; (repeat' (rcases he with he | he)); all_goals (subst he; first | (exact Bool.noConfusion ht) | (intro z; subst z; simp_all [RK.fs_ne, fl]))))
local macro_rules | `(tactic| purse 7024 => fail) => `(tactic| (refine g_eachC1 (by rfl) (by assumption) (by (purse 7003 => fail)) ?_; intro _ _ _; (purse 7012 => fail); refine g_kput (by assumption) (by (purse 7005 => fail)) rfl rfl ?_; intro _ _))
local macro_rules | `(tactic| purse 7025 => fail) => `(tactic| ((purse 7012 => fail); (purse 7016 => fail); (purse 7012 => fail); refine use_secs (At.out (by assumption) (by assumption) (by assumption)) (by assumption) ?_; (purse 7012 => fail); refine g_ksfld (by assumption) (by (purse 7005 => fail)) (by assumption) (by assumption) (by decide) ?_; intro _ _; (purse 7012 => fail)))
local macro_rules | `(tactic| purse 7026 => fail) => `(tactic| (repeat (first | exact List.mem_cons_self | apply List.mem_cons_of_mem)))
local macro_rules | `(tactic| purse 7027 => fail) => `(tactic| (refine g_ksfld (by assumption) (by (purse 7005 => fail)) (by assumption) (by assumption) (by exact Nat.le_of_ble_eq_true rfl) ?_; intro _ _; (purse 7012 => fail)))
local macro_rules | `(tactic| purse 7028 => fail) => `(tactic| (refine g_lk (by assumption) (fun _ => by (purse 7005 => fail)) ?_; intro _ _ _; refine g_dc (by assumption) (by (purse 7003 => fail)) ?_; intro _ _ _; (purse 7024 => fail); (purse 7024 => fail); (purse 7024 => fail); refine g_eachC0 (by (purse 7003 => fail)) ?_; (purse 7012 => fail); (purse 7027 => fail); (purse 7027 => fail); (purse 7027 => fail)))
theorem ok_finit (F : FnP K "__init__" "File.__init__" s_File___init__ f fd) (T : TF2 K w mg) (D_makes : Dn P w K mg base 8 (ga K "makes") ["value"] spMakes) (D_seconds_of : Dn P w K mg base 6 (ga K "seconds_of") ["value"] (spSecs (ga K "Moment"))) (D_backs : Dn P w K mg base 8 (ga K "backs") ["deed"] spBacks) :
    FnOk P w K mg base (L2.CX P w) 10 f fd ["self", "rule", "deed", "at"] (spFInit (ga K "Rule") (ga K "File") (ga K "Moment")) := by
  refine F.ok c_File___init__ (fun vs H Q E h => ?_) (fun cdv A outer s H vs Q E hr h => ⟨_, pss_cons (ps_if (pt_not (pt_val (pe_callB call_isi (by rfl) T.z_isinstance (by decide +kernel) (pa_cons (pv 1) (pa_cons (pe_glob (v := .ref _) rfl T.g_Rule rfl) (pa_nil))))))
      (pss_one (ps_never))
      (pss_nil))
      (pss_cons (ps_if (pt_not (pt_val (pe_dn D_makes (rm hr) rfl T.g_makes (passes_call (takes_of rfl rfl rfl rfl) fun _ _ _ _ h => h) (pa_cons (pv 2) (pa_nil)))))
      (pss_one (ps_never))
      (pss_nil))
      (pss_cons (ps_set (i := 4) c_File___init__.nd rfl (Or.inr rfl) (pe_dn D_seconds_of (rm hr) rfl T.g_seconds_of (passes_call (takes_of rfl rfl rfl rfl) fun _ _ _ _ h => h) (pa_cons (pv 3) (pa_nil))))
      (pss_cons (ps_fld (pv 0) (pv 1) rfl)
      (pss_cons (ps_fld (pv 0) (pe_dc (own := [("mark", 5), ("back", 6)]) (g := gTup K 2 (gCons (gName 5) (gCons (gName 6) (gNil)))) (tt := tYes) rfl c_File___init__.nd (pi_items (pe_lk (pe_dn D_backs (rm hr) rfl T.g_backs (passes_call (takes_of rfl rfl rfl rfl) fun _ _ _ _ h => h) (pa_cons (pv 2) (pa_nil))))) (blkOk_by (own := [("mark", 5), ("back", 6)]) (N := ["self", "rule", "deed", "at", "moment", "mark", "back"]) (sc := defScope s_File___init__) (by decide +kernel)) (fun _ _ _ _ _ => pg_tup rfl (pgs_cons (pg_name (i := 5) c_File___init__.nd rfl (Or.inl rfl)) (pgs_cons (pg_name (i := 6) c_File___init__.nd rfl (Or.inl rfl)) (pgs_nil)))) (fun _ _ _ _ _ => pts_nil) (fun _ _ _ _ _ => pv 5) (fun _ _ _ _ _ => pe_op op_sub (pv 4) (pv 6))) rfl)
      (pss_cons (ps_fld (pv 0) (pv 4) rfl)
      (pss_one (ps_fld (pv 0) (pe_bl) rfl))))))), ?_⟩)
  · obtain ⟨p, dx, q, dq, t, k, xs, v, n, x, y, z, rfl, _⟩ := h
    rfl
  · obtain ⟨p, dx, q, dq, t, k, xs, v, n, x, y, z, rfl, hat, hp, hq, ht, hm, hn, w⟩ := h
    have hnn : ∀ q dq, H q = some (.ins (ga K "Moment") dq (mo n)) → ¬ (q = p) := fun q dq h e => by
      rw [e, hp] at h
      simp [mo] at h
    have nq : q ≠ p := fun z => by rw [z, hp] at hq; simp only [Option.some.injEq, HO.ins.injEq] at hq; exact k.fs_ne hq.2.2.symm
    have nt : t ≠ p := fun z => by rw [z, hp] at ht; cases ht
    have S0 : Sh H (fun b => b = p) H [(p, .ins (ga K "File") dx [], true)] := Sh.start.take hp rfl (fun _ h => nomatch h)
    have S : Sh H (fun b => b = p) H [(t, .tup xs, false), (q, .ins (ga K "Rule") dq k.fs, false), (p, .ins (ga K "File") dx [], true)] := (S0.know hq (fun e he _ => by simp only [List.mem_cons, List.not_mem_nil, or_false] at he; subst he; exact nq)).know ht (fun e he hh => by
      simp only [List.mem_cons, List.not_mem_nil, or_false] at he
      rcases he with he | he
      · subst he; cases hh
      · subst he; exact nt)
    have t1 := T.cl
    have t2 := T.nR
    have t3 := T.nN
    have t4 := T.nD
    have t5 := T.nH
    (purse 7012 => fail)
    refine g_isi (.own _) (ty_ru T hq) T.icR.me ?_
    (purse 7012 => fail)
    (purse 7016 => fail)
    (purse 7012 => fail)
    have fin : ∀ {nd : Addr} {H' : Hp} {l : List Ent} {kvs : List (Key × V)}, Sh H (fun b => b = p) H' l → On l p (.ins (ga K "File") dx (fl q nd n false)) → (nd, .dK kvs, true) ∈ l → kvs = mk3 x y z → Q .non H' := fun {nd H' l kvs} S' o m ek => by
      subst ek
      exact
      have ne : nd ≠ p := fun e => by
        have a := S'.has_ o
        have b := S'.has _ m
        rw [show ((nd, HO.dK (mk3 x y z), true) : Ent).1 = p from e] at b
        rw [a] at b
        cases b
      w nd H' ((S'.mu _ m rfl).elim (fun e => absurd e ne) id) (S'.out fun b e => by simp [e]) (S'.has_ o) (S'.has _ m)
    cases hm with
    | make =>
      refine use_makes (kvs := _) S (by (purse 7004 => fail)) .make rfl fun H1 S1 => ?_
      (purse 7025 => fail)
      refine use_backs (by assumption) (by (purse 7004 => fail)) .make ?_
      intro nb _ _ _
      refine g_lk (by assumption) (fun _ => by (purse 7005 => fail)) ?_
      intro _ _ _
      refine g_dc (by assumption) (by (purse 7003 => fail)) ?_
      intro _ _ _
      refine g_eachC1 (by rfl) (by assumption) (by (purse 7003 => fail)) ?_
      intro _ _ _
      (purse 7012 => fail)
      refine g_kput (by assumption) (by (purse 7005 => fail)) rfl rfl ?_
      intro _ _
      (purse 7024 => fail)
      (purse 7024 => fail)
      refine g_eachC0 (by (purse 7003 => fail)) ?_
      (purse 7012 => fail)
      (purse 7027 => fail)
      (purse 7027 => fail)
      (purse 7027 => fail)
      exact fin (by assumption) (by (purse 7004 => fail)) (by (purse 7026 => fail)) (by simp only [Int.sub_zero]; rfl)
    | unpack h1 h2 =>
      refine use_makes (kvs := _) S (by (purse 7004 => fail)) (.unpack h1 h2) rfl fun H1 S1 => ?_
      (purse 7025 => fail)
      refine use_backs (by assumption) (by (purse 7004 => fail)) (.unpack h1 h2) ?_
      intro nb _ _ _
      (purse 7028 => fail)
      exact fin (by assumption) (by (purse 7004 => fail)) (by (purse 7026 => fail)) (by simp only [Int.sub_zero]; rfl)
theorem g_mkfile {H0 : Hp} {M : Addr → Prop} {H : Hp} {l : List Ent} {R C MC q dq t : Addr} {k : RK} {xs : List V} {v : V} {n x y z : Int} {E : XK} {Q : VK} (S : Sh H0 M H l) (av : AtL MC l v n) (oq : On l q (.ins R dq k.fs)) (ot : On l t (.tup xs)) (hm : Mk3 n xs x y z) (hn : Mo30 n)
    (c : ∀ a dx nd H', Sh H0 M H' ((nd, .dK (mk3 x y z), true) :: (a, .ins C dx (fl q nd n false), true) :: l) → Q (.ref a) H') : kMake C (spFInit R C MC) E Q [.ref q, .ref t, v] H :=
  g_kmake2 (fs := fun nd => fl q nd n false) S (fun a dx H1 Q' ha S1 w => ⟨a, dx, q, dq, t, k, xs, v, n, x, y, z, rfl, av.next.next.at_ S1, ha, S1.has_ (.next (.next oq)), S1.has_ (.next (.next ot)), hm, hn, w⟩) c
theorem ne_of_obj {H : Hp} {p q : Addr} {o o' : HO} (h : H p = some o) (h' : H q = some o') (ne : o ≠ o') : p ≠ q := fun z => ne (by rw [z, h'] at h; exact (Option.some.inj h).symm)
theorem ins_ne {k : RK} {C R dx dr r d : Addr} {m : Int} {h : Bool} : HO.ins R dr k.fs ≠ HO.ins C dx (fl r d m h) := fun z => by
  simp only [HO.ins.injEq] at z
  exact fl_ne_ru z.2.2
theorem ok_shifts (F : FnP K "shifts" "File.shifts" s_File_shifts f fd) (T : TF2 K w mg) (D_backs : Dn P w K mg base 8 (ga K "backs") ["deed"] spBacks) (D_call : Dn P w K mg base 8 (ma K (ga K "Rule") "__call__") ["self", "file", "at"] (spTold (ga K "Rule") (ga K "File"))) :
    FnOk P w K mg base (L2.CX P w) 10 f fd ["self", "deed", "moment"] (spShifts (ga K "Rule") (ga K "File")) := by
  refine F.ok c_File_shifts (fun vs H Q E h => ?_) (fun cdv A outer s H vs Q E hr h => ⟨_, pss_cons (ps_if (pt_cmpR op_ne (pe_ix ix_tup (pv 1) (pe_int) (fun _ _ => rfl)) (pe_str) (nomark _))
      (pss_one (ps_ret (pe_dn D_backs (rm hr) rfl T.g_backs (passes_call (takes_of rfl rfl rfl rfl) fun _ _ _ _ h => h) (pa_cons (pv 1) (pa_nil)))))
      (pss_nil))
      (pss_cons (ps_if (pt_val (pe_cf D_call T.ci (rm hr) (passes_call (takes_of rfl rfl rfl rfl) fun _ _ _ _ h => h) T.cl T.nR ((pv 0)) (pa_cons (pv 0) (pa_cons (pv 2) (pa_nil)))))
      (pss_one (ps_ret (pe_disp (pps_cons (pe_str) (pe_int) (pps_nil)) rfl rfl (by decide) (by decide))))
      (pss_nil))
      (pss_one (ps_ret (pe_dnewK)))), ?_⟩)
  · obtain ⟨a, dx, r, dr, d, t, k, xs, kvs, m, n, x, y, z, h, rfl, _⟩ := h
    rfl
  · obtain ⟨a, dx, r, dr, d, t, k, xs, kvs, m, n, x, y, z, b, rfl, ha, hr1, hd, ht, hb, hn, w⟩ := h
    have S : Sh H (fun _ => False) H [(t, .tup xs, false), (r, .ins (ga K "Rule") dr k.fs, false), (a, .ins (ga K "File") dx (fl r d m b), false), (d, .dK (mk3 x y z), false)] := know0 (know0 (know0 (know0 Sh.start hd rfl) ha rfl) hr1 rfl) ht rfl
    have hne : r ≠ a := ne_of_obj hr1 ha ins_ne
    have t1 := T.cl
    have t2 := T.nR
    have fin : ∀ {p : Addr} {H' : Hp} {kvs' : List (Key × V)} {l : List Ent}, Sh H (fun _ => False) H' ((p, .dK kvs', true) :: l) → Sf k x y z n xs kvs' → Q (.ref p) H' := fun {p H' kvs' l} S' hs =>
      w p kvs' H' ((S'.mu _ List.mem_cons_self rfl).elim False.elim id) (S'.out fun b e => e.elim) (S'.has_ .here) hs
    (purse 7012 => fail)
    have hb0 := hb
    cases hb with
    | read =>
      refine g_ixT (by (purse 7003 => fail)) rfl ?_
      (purse 7012 => fail)
      refine g_neS (r := true) (by decide) ?_
      (purse 7012 => fail)
      (purse 7016 => fail)
      (purse 7012 => fail)
      refine g_kcf (by (purse 7003 => fail)) rfl ?_
      refine g_kci ?_
      (purse 7012 => fail)
      refine ⟨⟨_, _, by (purse 7003 => fail)⟩, use_told S (by (purse 7004 => fail)) (by (purse 7004 => fail)) (by (purse 7004 => fail)) hne hn fun H' S' => ?_⟩
      (purse 7012 => fail)
      cases e : k.told x y z n with
      | true =>
        (purse 7015 => fail)
        (purse 7012 => fail)
        refine g_disp1 (by assumption) ?_
        intro p H' _ _
        exact fin (by assumption) (.read1 e)
      | false =>
        (purse 7016 => fail)
        (purse 7012 => fail)
        refine g_dnew (by assumption) ?_
        intro p H' _ _
        exact fin (by assumption) (.read0 e)
    | _ =>
      refine g_ixT (by (purse 7003 => fail)) rfl ?_
      (purse 7012 => fail)
      refine g_neS (r := false) (by decide) ?_
      (purse 7012 => fail)
      (purse 7015 => fail)
      (purse 7012 => fail)
      refine use_backs (by assumption) (by (purse 7004 => fail)) hb0 ?_
      intro p H' _ _
      exact fin (by assumption) (.other hb0 (by intro z; simp at z <;> (revert z; decide)))
theorem use_shifts {H0 H : Hp} {M : Addr → Prop} {l : List Ent} {R C a dx r dr d t : Addr} {k : RK} {xs : List V} {kvs : List (Key × V)} {m n x y z : Int} {h : Bool} {Q : VK} {E : XK} (S : Sh H0 M H l) (oa : On l a (.ins C dx (fl r d m h))) (or : On l r (.ins R dr k.fs)) (od : On l d (.dK (mk3 x y z))) (ot : On l t (.tup xs))
    (hb : Bk xs kvs) (hn : Mo30 n) (c : ∀ p kvs' H', Sf k x y z n xs kvs' → Sh H0 M H' ((p, .dK kvs', true) :: l) → Q (.ref p) H') : spShifts R C [.ref a, .ref t, .int n] H Q E :=
  ⟨a, dx, r, dr, d, t, k, xs, kvs, m, n, x, y, z, h, rfl, S.has_ oa, S.has_ or, S.has_ od, S.has_ ot, hb, hn, fun p kvs' H' hp c1 e hs => c p kvs' H' hs (S.add c1 hp e)⟩
local macro_rules | `(tactic| purse 7029 => fail) => `(tactic| (refine g_each1 (by assumption) (by (purse 7003 => fail)) ?_; intro _ _ _; refine g_tup2 (by (purse 7003 => fail)) ?_; (purse 7012 => fail); refine g_setD (by assumption) (by (purse 7005 => fail)) (by exact rfl) (by exact rfl) ?_; intro _ _; (purse 7012 => fail)))
local macro_rules | `(tactic| purse 7030 => fail) => `(tactic| (refine g_each0 (by (purse 7003 => fail)) ?_; (purse 7012 => fail); (purse 7027 => fail); refine use_makes (by assumption) (by (purse 7004 => fail)) (by assumption) rfl ?_; intro _ _; (purse 7012 => fail); (purse 7017 => fail); (purse 7012 => fail); (try (purse 7027 => fail)); refine g_listKf (by assumption) (by (purse 7003 => fail)) ?_; intro _ _ _ _))
theorem ok_do (F : FnP K "do" "File.do" s_File_do f fd) (T : TF2 K w mg) (D_is_deed : Dn P w K mg base 6 (ga K "is_deed") ["value"] spDeed) (D_seconds_of : Dn P w K mg base 6 (ga K "seconds_of") ["value"] (spSecs (ga K "Moment"))) (D_makes : Dn P w K mg base 8 (ga K "makes") ["value"] spMakes)
    (H_shifts : Hn P w K mg base 10 (ga K "File") "shifts" (spShifts (ga K "Rule") (ga K "File"))) : FnOk P w K mg base (L2.CX P w) 12 f fd ["self", "deed", "at"] (spDo (ga K "Rule") (ga K "File") (ga K "Moment")) := by
  refine F.ok c_File_do (fun vs H Q E h => ?_) (fun cdv A outer s H vs Q E hr h => ⟨_, pss_cons (ps_if (pt_not (pt_val (pe_dn D_is_deed (rm hr) rfl T.g_is_deed (passes_call (takes_of rfl rfl rfl rfl) fun _ _ _ _ h => h) (pa_cons (pv 1) (pa_nil)))))
      (pss_one (ps_never))
      (pss_nil))
      (pss_cons (ps_set (i := 3) c_File_do.nd rfl (Or.inl rfl) (pe_dn D_seconds_of (rm hr) rfl T.g_seconds_of (passes_call (takes_of rfl rfl rfl rfl) fun _ _ _ _ h => h) (pa_cons (pv 2) (pa_nil))))
      (pss_cons (ps_if (pt_cmpR op_le (pv 3) (pe_fld (pv 0) rfl) (nomark _))
      (pss_one (ps_never))
      (pss_nil))
      (pss_cons (ps_set (i := 4) c_File_do.nd rfl (Or.inl rfl) (pe_dm H_shifts (rm hr) (passes_call (takes_of rfl rfl rfl rfl) fun _ _ _ _ h => h) (pv 0) (pa_cons (pv 1) (pa_cons (pv 3) (pa_nil)))))
      (pss_cons (ps_for (passes_of rfl) rfl (pi_items (pe_lk (pv 4))) (pg_tup (n := 2) rfl (pgs_cons (pg_name (i := 5) c_File_do.nd rfl (Or.inl rfl)) (pgs_cons (pg_name (i := 6) c_File_do.nd rfl (Or.inl rfl)) (pgs_nil))))
      (pss_one (ps_asg (pe_op op_sub (pv 3) (pv 6)) (pg_sub (pe_fld (pv 0) rfl) (pv 5) (set_dict (hu_of hr))))))
      (pss_cons (ps_fld (pv 0) (pv 3) rfl)
      (pss_cons (ps_if (pt_val (pe_dn D_makes (rm hr) rfl T.g_makes (passes_call (takes_of rfl rfl rfl rfl) fun _ _ _ _ h => h) (pa_cons (pv 1) (pa_nil))))
      (pss_one (ps_fld (pv 0) (pe_bl) rfl))
      (pss_nil))
      (pss_one (ps_ret (pe_callTy (cl_listK rfl) (by rfl) T.z_list (by decide +kernel) (pa_cons (pv 4) (pa_nil))))))))))), ?_⟩)
  · obtain ⟨a, dx, r, dr, d, t, k, xs, kvs, v, m, n, x, y, z, h, rfl, _⟩ := h
    rfl
  · obtain ⟨a, dx, r, dr, d, t, k, xs, kvs, v, m, n, x, y, z, b, rfl, hat, ha, hr1, hd, ht, hb, hn, hmn, w⟩ := h
    have hnn : ∀ q dq, H q = some (.ins (ga K "Moment") dq (mo n)) → ¬ (q = a ∨ q = d) := fun q dq h e => by
      rcases e with e | e
      · rw [e, ha] at h
        simp [mo, fl] at h
      · rw [e, hd] at h
        cases h
    have na : a ≠ d := ne_of_obj ha hd (fun z => nomatch z)
    have nr : r ≠ a := ne_of_obj hr1 ha ins_ne
    have nr2 : r ≠ d := ne_of_obj hr1 hd (fun z => nomatch z)
    have nt : t ≠ a := ne_of_obj ht ha (fun z => nomatch z)
    have nt2 : t ≠ d := ne_of_obj ht hd (fun z => nomatch z)
    have S1 : Sh H (fun b => b = a ∨ b = d) H [(a, .ins (ga K "File") dx (fl r d m b), true), (d, .dK (mk3 x y z), true)] := (Sh.start.take hd (.inr rfl) (fun _ h => nomatch h)).take ha (.inl rfl) (fun e he => by
      simp only [List.mem_cons, List.not_mem_nil, or_false] at he; subst he; exact na)
    have S2 : Sh H (fun b => b = a ∨ b = d) H [(r, .ins (ga K "Rule") dr k.fs, false), (a, .ins (ga K "File") dx (fl r d m b), true), (d, .dK (mk3 x y z), true)] := S1.know hr1 (fun e he _ => by
      simp only [List.mem_cons, List.not_mem_nil, or_false] at he
      rcases he with he | he
      · subst he; exact nr
      · subst he; exact nr2)
    have S : Sh H (fun b => b = a ∨ b = d) H [(t, .tup xs, false), (r, .ins (ga K "Rule") dr k.fs, false), (a, .ins (ga K "File") dx (fl r d m b), true), (d, .dK (mk3 x y z), true)] := S2.know ht (fun e he hh => by
      simp only [List.mem_cons, List.not_mem_nil, or_false] at he
      rcases he with he | he | he
      · subst he; cases hh
      · subst he; exact nt
      · subst he; exact nt2)
    have fin : ∀ {p : Addr} {H' : Hp} {l : List Ent} {kvs' : List (Key × V)} {ps : List V} {x' y' z' : Int} {h' : Bool}, Sh H (fun b => b = a ∨ b = d) H' ((p, .lst ps, true) :: l) → On l a (.ins (ga K "File") dx (fl r d n h')) → On l d (.dK kvs') → h' = heldBy xs b → kvs' = mk3 x' y' z' → Af k x y z n xs ps x' y' z' → Q (.ref p) H' :=
      fun {p H' l kvs' ps x' y' z' h'} S' oa od eh ek af => by
        subst eh ek
        have hp := S'.has_ (p := p) (o := .lst ps) .here
        have pa := ne_of_obj hp (S'.has_ (.next oa)) (fun z => nomatch z)
        have pd := ne_of_obj hp (S'.has_ (.next od)) (fun z => nomatch z)
        exact w p ps x' y' z' H' ((S'.mu _ List.mem_cons_self rfl).elim (fun e => e.elim (fun e => absurd e pa) (fun e => absurd e pd)) id) (S'.out fun b e => by simp only [List.mem_cons, List.not_mem_nil, or_false]; exact e) (S'.has_ (.next oa)) (S'.has_ (.next od)) hp af
    have t1 := T.cl
    have t2 := T.nR
    have t3 := T.nN
    have t4 := T.nD
    have t5 := T.nH
    (purse 7012 => fail)
    refine use_deed S (by (purse 7004 => fail)) hb.dd fun H1 S1 => ?_
    (purse 7012 => fail)
    (purse 7016 => fail)
    (purse 7012 => fail)
    refine use_secs (At.out (by assumption) hat hnn) hn ?_
    (purse 7012 => fail)
    (purse 7016 => fail)
    (purse 7012 => fail)
    refine use_shifts (by assumption) (by (purse 7004 => fail)) (by (purse 7004 => fail)) (by (purse 7004 => fail)) (by (purse 7004 => fail)) hb hn ?_
    intro p kvs' H2 hs S2
    (purse 7012 => fail)
    refine g_lk (by assumption) (fun _ => by (purse 7005 => fail)) ?_
    intro od H3 S3
    refine g_it (by (purse 7003 => fail)) ?_
    cases hs with
    | other hb' hn' =>
      cases hb' with
      | make =>
        (purse 7029 => fail)
        (purse 7029 => fail)
        (purse 7029 => fail)
        (purse 7030 => fail)
        exact fin (by assumption) (by (purse 7004 => fail)) (by (purse 7004 => fail)) rfl (by (try simp only [Int.sub_zero]); (try rfl)) .make
      | touch =>
        (purse 7029 => fail)
        (purse 7029 => fail)
        (purse 7029 => fail)
        (purse 7030 => fail)
        exact fin (by assumption) (by (purse 7004 => fail)) (by (purse 7004 => fail)) rfl (by (try simp only [Int.sub_zero]); (try rfl)) .touch
      | write =>
        (purse 7029 => fail)
        (purse 7029 => fail)
        (purse 7030 => fail)
        exact fin (by assumption) (by (purse 7004 => fail)) (by (purse 7004 => fail)) rfl (by (try simp only [Int.sub_zero]); (try rfl)) .write
      | rename =>
        (purse 7029 => fail)
        (purse 7030 => fail)
        exact fin (by assumption) (by (purse 7004 => fail)) (by (purse 7004 => fail)) rfl (by (try simp only [Int.sub_zero]); (try rfl)) .rename
      | unpack h1 h2 =>
        (purse 7029 => fail)
        (purse 7029 => fail)
        (purse 7029 => fail)
        (purse 7030 => fail)
        exact fin (by assumption) (by (purse 7004 => fail)) (by (purse 7004 => fail)) rfl (by (try simp only [Int.sub_zero]); (try rfl)) .unpack
      | setback h1 h2 =>
        (purse 7029 => fail)
        (purse 7029 => fail)
        (purse 7029 => fail)
        (purse 7030 => fail)
        exact fin (by assumption) (by (purse 7004 => fail)) (by (purse 7004 => fail)) rfl (by (try simp only [Int.sub_zero]); (try rfl)) .setback
      | read => exact absurd rfl hn'
    | read1 e =>
      (purse 7029 => fail)
      (purse 7030 => fail)
      exact fin (by assumption) (by (purse 7004 => fail)) (by (purse 7004 => fail)) rfl (by (try simp only [Int.sub_zero]); (try rfl)) (.read1 e)
    | read0 e =>
      (purse 7030 => fail)
      exact fin (by assumption) (by (purse 7004 => fail)) (by (purse 7004 => fail)) rfl (by (try simp only [Int.sub_zero]); (try rfl)) (.read0 e)
theorem ok_fget (F : FnP K "__getitem__" "File.__getitem__" s_File___getitem__ f fd) (T : TF2 K w mg) (M_Moment : Mn P w K mg base 6 (ga K "Moment") ["self", "seconds"] (spInit (ga K "Moment"))) :
    FnOk P w K mg base (L2.CX P w) 8 f fd ["self", "at"] (spFGet (ga K "File") (ga K "Moment")) := by
  refine F.ok c_File___getitem__ (fun vs H Q E h => ?_) (fun cdv A outer s H vs Q E hr h => ⟨_, pss_cons (ps_if (PW.pt (pw_or (pt_not (pt_val (pe_callB call_isi (by rfl) T.z_isinstance (by decide +kernel) (pa_cons (pv 1) (pa_cons (pe_bltn (v := .ty "str") rfl T.z_str (by decide +kernel) rfl) (pa_nil)))))) (pw_or1 (pt_cmpR op_notIn_seq (pv 1) (pe_gc rfl T.v_MARKS) (by rfl)))))
      (pss_one (ps_never))
      (pss_nil))
      (pss_one (ps_ret (pe_mn M_Moment (rm hr) rfl T.g_Moment (passes_call (takes_of rfl rfl rfl rfl) fun _ _ _ _ h => h) (pa_cons (pe_dget (hu_of hr) ((pe_fld (pv 0) rfl)) ((pv 1)) (fun _ _ => rfl)) (pa_nil))))), ?_⟩)
  · obtain ⟨a, dx, r, d, m, x, y, z, v, h, s, rfl, _⟩ := h
    rfl
  · obtain ⟨a, dx, r, d, m, x, y, z, v, h, s, rfl, ha, hd, hv, hm, w⟩ := h
    have S : Sh H (fun _ => False) H [(a, .ins (ga K "File") dx (fl r d m h), false), (d, .dK (mk3 x y z), false)] := know0 (know0 Sh.start hd rfl) ha rfl
    have t1 := T.cl
    have t3 := T.nN
    (purse 7012 => fail)
    refine g_isi (.ty "str") (.base (.str _)) (kit_ty (b := "str") (r := true) (by decide +kernel)) ?_
    (purse 7012 => fail)
    (purse 7016 => fail)
    (purse 7012 => fail)
    have e1 : inV (.str s) [.str "read", .str "written", .str "changed"] = true := by
      rcases hv with ⟨rfl, _⟩ | ⟨rfl, _⟩ | ⟨rfl, _⟩ <;> rfl
    refine ⟨ga K "MARKS", _, rfl, .inr T.marks.sq, rfl, rfl, ?_⟩
    rw [e1]
    (purse 7012 => fail)
    (purse 7016 => fail)
    (purse 7012 => fail)
    have e2 : valV (mk3 x y z) (.inr s) = some (.int v) := by
      rcases hv with ⟨rfl, rfl⟩ | ⟨rfl, rfl⟩ | ⟨rfl, rfl⟩ <;> rfl
    refine g_dg (by (purse 7003 => fail)) e2 ?_
    refine g_kmake (fs := mo v) S (fun p dp H1 Q' hp c => ⟨p, dp, v, rfl, hp, hm.1, hm.2, c⟩) fun p dp H' S' => ?_
    exact end_newR S' w
theorem ok_held (F : FnP K "held" "File.held" s_File_held f fd) (T : TF2 K w mg) : FnOk P w K mg base (L2.CX P w) 2 f fd ["self"] (spHeld (ga K "File")) := by
  refine F.ok c_File_held (fun vs H Q E h => ?_) (fun cdv A outer s H vs Q E hr h => ⟨_, pss_one (ps_ret (pe_fld (pv 0) rfl)), ?_⟩)
  · obtain ⟨a, dx, r, d, m, h, rfl, _⟩ := h
    rfl
  · obtain ⟨a, dx, r, d, m, h, rfl, ha, k⟩ := h
    (purse 7012 => fail)
    refine g_kfld (K := K) ha T.cl T.nH rfl ?_
    exact k
theorem ok_req (F : FnP K "__eq__" "Rule.__eq__" s_Rule___eq__ f fd) (T : TF2 K w mg) : FnOk P w K mg base (L2.CX P w) 4 f fd ["self", "other"] (spREq (ga K "Rule")) := by
  refine F.ok c_Rule___eq__ (fun vs H Q E h => ?_) (fun cdv A outer s H vs Q E hr h => ⟨_, pss_one (ps_ret (pe_and (pe_callB call_isi (by rfl) T.z_isinstance (by decide +kernel) (pa_cons (pv 1) (pa_cons (pe_glob (v := .ref _) rfl T.g_Rule rfl) (pa_nil)))) (pe_and (pe_cmpR op_eq (pe_fld (pv 0) rfl) (pe_fld (pv 1) rfl) (nomark _)) (pe_one (pe_cmpR op_eq (pe_fld (pv 0) rfl) (pe_fld (pv 1) rfl) (nomark _)))))), ?_⟩)
  · obtain ⟨q, dq, q', dq', k, k', rfl, _⟩ := h
    rfl
  · obtain ⟨q, dq, q', dq', k, k', rfl, hq, hq', w⟩ := h
    have t1 := T.rcl
    have t2 := T.nC
    have t3 := T.nW
    (purse 7012 => fail)
    refine g_isi (.own _) (ty_ru T hq') T.icR.me ?_
    (purse 7012 => fail)
    (purse 7015 => fail)
    (purse 7012 => fail)
    have no : ∀ {i j : Str} {vi vj : V}, k.fs = ru i vi → k'.fs = ru j vj → decide (V.str i = V.str j) = false → k.eqb k' = false → True := fun _ _ _ _ => trivial
    cases k with
    | seldom n =>
      refine g_kfld (K := K) hq T.rcl T.nC rfl ?_
      (purse 7012 => fail)
      cases k' with
      | seldom n' =>
        refine g_kfld (K := K) hq' T.rcl T.nC rfl ?_
        refine g_eqS (r := true) (by decide) ?_
        (purse 7012 => fail)
        (purse 7015 => fail)
        (purse 7012 => fail)
        refine g_kfld (K := K) hq T.rcl T.nW rfl ?_
        (purse 7012 => fail)
        refine g_kfld (K := K) hq' T.rcl T.nW rfl ?_
        (purse 7012 => fail)
        exact w
      | _ =>
        refine g_kfld (K := K) hq' T.rcl T.nC rfl ?_
        refine g_eqS (r := false) (by decide) ?_
        (purse 7012 => fail)
        (purse 7016 => fail)
        exact w
    | always =>
      refine g_kfld (K := K) hq T.rcl T.nC rfl ?_
      (purse 7012 => fail)
      cases k' with
      | always =>
        refine g_kfld (K := K) hq' T.rcl T.nC rfl ?_
        refine g_eqS (r := true) (by decide) ?_
        (purse 7012 => fail)
        (purse 7015 => fail)
        (purse 7012 => fail)
        refine g_kfld (K := K) hq T.rcl T.nW rfl ?_
        (purse 7012 => fail)
        refine g_kfld (K := K) hq' T.rcl T.nW rfl ?_
        refine g_eqN ?_
        exact w
      | _ =>
        refine g_kfld (K := K) hq' T.rcl T.nC rfl ?_
        refine g_eqS (r := false) (by decide) ?_
        (purse 7012 => fail)
        (purse 7016 => fail)
        exact w
    | never =>
      refine g_kfld (K := K) hq T.rcl T.nC rfl ?_
      (purse 7012 => fail)
      cases k' with
      | never =>
        refine g_kfld (K := K) hq' T.rcl T.nC rfl ?_
        refine g_eqS (r := true) (by decide) ?_
        (purse 7012 => fail)
        (purse 7015 => fail)
        (purse 7012 => fail)
        refine g_kfld (K := K) hq T.rcl T.nW rfl ?_
        (purse 7012 => fail)
        refine g_kfld (K := K) hq' T.rcl T.nW rfl ?_
        refine g_eqN ?_
        exact w
      | _ =>
        refine g_kfld (K := K) hq' T.rcl T.nC rfl ?_
        refine g_eqS (r := false) (by decide) ?_
        (purse 7012 => fail)
        (purse 7016 => fail)
        exact w
theorem ok_feq (F : FnP K "__eq__" "File.__eq__" s_File___eq__ f fd) (T : TF2 K w mg) (D_req : Dn P w K mg base 4 (ma K (ga K "Rule") "__eq__") ["self", "other"] (spREq (ga K "Rule"))) : FnOk P w K mg base (L2.CX P w) 8 f fd ["self", "other"] (spFEq (ga K "Rule") (ga K "File")) := by
  refine F.ok c_File___eq__ (fun vs H Q E h => ?_) (fun cdv A outer s H vs Q E hr h => ⟨_, pss_one (ps_ret (pe_and (pe_callB call_isi (by rfl) T.z_isinstance (by decide +kernel) (pa_cons (pv 1) (pa_cons (pe_glob (v := .ref _) rfl T.g_File rfl) (pa_nil)))) (pe_and (pe_cmpR (cmp_eq D_req T.ceR (rm hr) (passes_call (takes_of rfl rfl rfl rfl) fun _ _ _ _ h => h)) (pe_fld (pv 0) rfl) (pe_fld (pv 1) rfl) (nomark _)) (pe_and (pe_cmpR (op_eq3 hr.units0) (pe_fld (pv 0) rfl) (pe_fld (pv 1) rfl) (nomark _)) (pe_and (pe_cmpR op_eq (pe_fld (pv 0) rfl) (pe_fld (pv 1) rfl) (nomark _)) (pe_one (pe_cmpR op_eq (pe_fld (pv 0) rfl) (pe_fld (pv 1) rfl) (nomark _)))))))), ?_⟩)
  · obtain ⟨a, dx, b, dy, r, dr, r', dr', d, e, k, k', m, m', x, y, z, x', y', z', h, h', rfl, _⟩ := h
    rfl
  · obtain ⟨a, dx, b, dy, r, dr, r', dr', d, e, k, k', m, m', x, y, z, x', y', z', h, h', rfl, ha, hb, hr1, hr2, hd, he, w⟩ := h
    have S : Sh H (fun _ => False) H [(a, .ins (ga K "File") dx (fl r d m h), false), (b, .ins (ga K "File") dy (fl r' e m' h'), false)] := know0 (know0 Sh.start hb rfl) ha rfl
    have t1 := T.cl
    have t2 := T.nR
    have t3 := T.nN
    have t4 := T.nD
    have t5 := T.nH
    (purse 7012 => fail)
    refine g_isi (.own _) (ty_fi T hb) T.ic.me ?_
    (purse 7012 => fail)
    (purse 7015 => fail)
    (purse 7012 => fail)
    refine g_cmp hr1 (.ins hr2) T.nfR ?_
    refine ⟨r, dr, r', dr', k, k', rfl, hr1, hr2, ?_⟩
    cases c1 : k.eqb k' with
    | false =>
      rw [c1] at w
      (purse 7012 => fail)
      (purse 7016 => fail)
      exact w
    | true =>
      rw [c1] at w
      (purse 7012 => fail)
      (purse 7015 => fail)
      (purse 7012 => fail)
      refine g_eq3 hd he (r := e3 x y z x' y' z') rfl ?_
      cases c2 : e3 x y z x' y' z' with
      | false =>
        rw [c2] at w
        (purse 7012 => fail)
        (purse 7016 => fail)
        exact w
      | true =>
        rw [c2] at w
        (purse 7012 => fail)
        (purse 7015 => fail)
        (purse 7012 => fail)
        by_cases c3 : m = m'
        · rw [decide_eq_true c3] at w ⊢
          (purse 7015 => fail)
          (purse 7012 => fail)
          exact w
        · rw [decide_eq_false c3] at w ⊢
          (purse 7016 => fail)
          exact w
end

end K1
namespace K1
open PySem PySem.Spec PyProof.Rows L2 AF
open C8 (pe_gc)
local macro_rules | `(tactic| purse 7003 => fail) => `(tactic| k_dflt (refine Sh.has_ (by assumption) ?_; repeat (first | exact On.here | apply On.next)))
local macro_rules | `(tactic| purse 7004 => fail) => `(tactic| k_dflt (repeat (first | exact On.here | apply On.next)))
local macro_rules | `(tactic| purse 7005 => fail) => `(tactic| (repeat (first | exact Rep.here | apply Rep.next)))
local macro_rules | `(tactic| purse 7006 => fail) => `(tactic| (exact Sh.out (by assumption) (fun b h => by simp [h])))
local macro_rules | `(tactic| purse 7007 => fail) => `(tactic| k_dflt (first | ((with_reducible refine cdivw ?_ ?_) <;> omega) | ((with_reducible show CDiv _ _); constructor <;> omega) | ((with_reducible show CMul _ _); (first | (left; constructor <;> omega) | (right; constructor <;> omega))) | (show (0 : Int) < _; omega)))
local macro_rules | `(tactic| purse 7008 => fail) => `(tactic| first | exact Kd.int _ | exact Kd.bl _ | exact Kd.non | exact Kd.str _ | exact Kd.ins (by (purse 7003 => fail)) | exact Kd.lst (by (purse 7003 => fail)) | exact Kd.tup (by (purse 7003 => fail)))
local macro_rules | `(tactic| purse 7009 => fail) => `(tactic| first | exact DpAll.nil | (apply DpAll.cons; (purse 7010 => fail); (purse 7009 => fail)))
local macro_rules | `(tactic| purse 7010 => fail) => `(tactic| first | exact Dp.int _ | exact Dp.bl _ | exact Dp.non | exact Dp.str _ | (refine dp_int ?_; omega) | (refine dp_bl ?_; simp only [decide_eq_decide]; omega) | (apply dp_lst; (purse 7003 => fail); (purse 7009 => fail)) | (apply dp_tup; (purse 7003 => fail); (purse 7009 => fail)))
local macro_rules | `(tactic| purse 7011 => fail) => `(tactic| first | assumption | omega)
local macro_rules | `(tactic| purse 7001 => fail) => `(tactic| fail "no use")
local macro_rules | `(tactic| purse 7002 => fail) => `(tactic| first
  | (with_reducible refine set_go ?_)
  | (with_reducible refine Step.go ?_)
  | (with_reducible first | refine g_pow10_6 ?_ | refine g_pow10_7 ?_ | refine g_pow10_18 ?_ | refine g_pow10_29 ?_ | refine g_pow10_30 ?_)
  | ((with_reducible refine' g_I ?a0 ?_); (case a0 => (purse 7007 => fail)))
  | ((with_reducible refine' g_ixL ?a0 ?a1 ?_); (case a0 => (purse 7003 => fail)); (case a1 => k_dflt (exact rfl)))
  | ((with_reducible refine' g_kfld ?a0 ?a1 ?a2 ?a3 ?_); (case a0 => (purse 7003 => fail)); (case a1 => k_dflt (assumption)); (case a2 => k_dflt (assumption)); (case a3 => k_dflt (exact rfl)))
  | ((with_reducible refine' g_kprop ?a0 ?_); (case a0 => (purse 7003 => fail)))
  | ((with_reducible refine' g_kmeth ?a0 ?a1 ?_); (case a0 => (purse 7003 => fail)); (case a1 => k_dflt (exact rfl)))
  | ((with_reducible refine' g_own ?a0 ?a1 ?a2 ?_); (case a0 => (purse 7003 => fail)); (case a1 => (purse 7008 => fail)); (case a2 => k_dflt (assumption)))
  | ((with_reducible refine' g_cmp ?a0 ?a1 ?a2 ?_); (case a0 => (purse 7003 => fail)); (case a1 => (purse 7008 => fail)); (case a2 => k_dflt (assumption)))
  | ((with_reducible refine' g_neq ?a0 ?a1 ?a2 ?_); (case a0 => (purse 7003 => fail)); (case a1 => (purse 7008 => fail)); (case a2 => k_dflt (assumption)))
  | ((with_reducible refine' g_right ?a0 ?_); (case a0 => (purse 7003 => fail)))
  | ((with_reducible refine' use_draw ?a0 ?a1 ?a2 ?a3 ?a4 ?_); (case a0 => assumption); (case a1 => intro _ _; (purse 7005 => fail)); (case a2 => assumption); (case a3 => (purse 7011 => fail)); (case a4 => (purse 7011 => fail)); intro _ _ _ _ _ _ _ _)
  | ((with_reducible refine' use_giveI ?a0 ?a1 ?a2 ?_); (case a0 => assumption); (case a1 => intro _ _; (purse 7005 => fail)); (case a2 => assumption); intro _ _ _ _ _ _ _ _)
  | ((with_reducible refine' use_source ?a0 ?a1 ?_); (case a0 => assumption); (case a1 => k_dflt (assumption)); intro _ _ _ _ _ _)
  | (with_reducible refine g_absN ?_; intro _ _)
  | (with_reducible refine g_maxN ?_; intro _ _ _ _)
  | (with_reducible refine g_minN ?_; intro _ _ _ _)
  | ((with_reducible refine' g_kR1 ?a0 ?a1 ?_); (case a0 => omega); (case a1 => omega))
  | ((with_reducible refine' g_neD ?a0 ?a1 ?a2 ?_); (case a0 => (purse 7010 => fail)); (case a1 => (purse 7010 => fail)); (case a2 => k_dflt (rfl)))
  | ((with_reducible refine' g_eqD ?a0 ?a1 ?a2 ?_); (case a0 => (purse 7010 => fail)); (case a1 => (purse 7010 => fail)); (case a2 => k_dflt (rfl)))
  | ((with_reducible refine' g_klst ?a0 ?a1 ?_); (case a0 => assumption); (case a1 => k_dflt (exact rfl)); intro _ _ _ _)
  | ((with_reducible refine' g_ktup ?a0 ?a1 ?_); (case a0 => assumption); (case a1 => k_dflt (exact rfl)); intro _ _ _ _)
  | ((with_reducible refine' g_setL ?a0 ?a1 ?a2 ?_); (case a0 => assumption); (case a1 => (purse 7005 => fail)); (case a2 => k_dflt (exact rfl)); intro _ _)
  | ((with_reducible refine' g_unl3 ?a0 ?_); (case a0 => (purse 7003 => fail)))
  | (purse 7001 => fail))
local macro_rules | `(tactic| purse 7012 => fail) => `(tactic| ((try (with_reducible refine start_go ?_)); repeat (purse 7002 => fail)))
local macro_rules | `(tactic| purse 7013 => fail) => `(tactic| first | rfl | (refine decide_eq_true ?_; omega) | (simp only [Bool.not_eq_true', Bool.not_eq_false', decide_eq_false_iff_not, decide_eq_true_eq, Bool.not_not, decide_eq_decide]; done) | (simp only [Bool.not_eq_true', Bool.not_eq_false', decide_eq_false_iff_not, decide_eq_true_eq, Bool.not_not, decide_eq_decide]; omega))
local macro_rules | `(tactic| purse 7014 => fail) => `(tactic| first | rfl | (refine decide_eq_false ?_; omega) | (simp only [Bool.not_eq_true', Bool.not_eq_false', decide_eq_false_iff_not, decide_eq_true_eq, Bool.not_not, decide_eq_decide]; done) | (simp only [Bool.not_eq_true', Bool.not_eq_false', decide_eq_false_iff_not, decide_eq_true_eq, Bool.not_not, decide_eq_decide]; omega))
local macro_rules | `(tactic| purse 7015 => fail) => `(tactic| ((refine g_yes ?h ?_); (case h => (purse 7013 => fail))))
local macro_rules | `(tactic| purse 7016 => fail) => `(tactic| ((refine g_no ?h ?_); (case h => (purse 7014 => fail))))
local macro_rules | `(tactic| purse 7017 => fail) => `(tactic| first | (purse 7015 => fail) | (purse 7016 => fail))
local macro_rules | `(tactic| purse 7018 => fail) => `(tactic| repeat ((purse 7012 => fail); (purse 7017 => fail)))
local macro_rules | `(tactic| purse 7019 => fail) => `(tactic| repeat (first | exact intIn_nil | refine intIn_cons (by omega) (by omega) ?_))
local macro_rules | `(tactic| purse 7020 => fail) => `(tactic| (simp only [List.length_cons, List.length_nil]; omega))
local macro_rules | `(tactic| purse 7021 => fail) => `(tactic| (refine g_two (fun c => ?_) (fun c => ?_) <;> first | (have c := of_decide_eq_true c) | (have c := of_decide_eq_false c) | skip))
local macro_rules | `(tactic| purse 7022 => fail) => `(tactic| ((purse 7018 => fail); (purse 7012 => fail); try ((purse 7021 => fail) <;> (purse 7022 => fail))))

/-! errors of rules and files, by any data -/
def momB : PyData → Bool
  | .int n => decide (-1000000000000000000000000000000 ≤ n) && decide (n ≤ 1000000000000000000000000000000)
  | _ => false
def ruleB : PyData → Bool
  | .int n => decide (1 ≤ n) && decide (n ≤ 2000)
  | _ => false
def spMomD : Sp := fun vs H Q _ => ∃ v d, vs = [v] ∧ Pv H v d ∧ Q (.bl (momB d)) H
def spSecsE (C : Addr) : Sp := fun vs H _ E => ∃ v d, vs = [v] ∧ Pv H v d ∧ momB d = false ∧ Err C "value" v H E
def spSeldomE (C : Addr) : Sp := fun vs H _ E => ∃ v d, vs = [v] ∧ Pv H v d ∧ ruleB d = false ∧ Err C "value" v H E
/-- a rule called with what is no moment, or no file -/
def spToldE (R C NM NF : Addr) : Sp := fun vs H _ E => (∃ (q dq a dx r e : Addr) (m x y z : Int) (h : Bool) (k : RK) (v : V) (d : PyData), vs = [.ref q, .ref a, v] ∧ H q = some (.ins R dq k.fs) ∧ H a = some (.ins C dx (fl r e m h)) ∧ Pv H v d ∧ momB d = false ∧ Err NM "value" v H E) ∨
  ∃ (q dq : Addr) (k : RK) (v u : V) (d : PyData), vs = [.ref q, v, u] ∧ H q = some (.ins R dq k.fs) ∧ Pv H v d ∧ Err NF "value" v H E
open He in
structure TE7 (K : PySem.W.Frag) (w : World) (mg : Str → Option Value) : Prop extends TF K w mg where
  g_is_whole : mg "is_whole" = some (.ref (ga K "is_whole"))
  g_Rule : mg "Rule" = some (.ref (ga K "Rule"))
  g_NoMoment : mg "NoMoment" = some (.ref (ga K "NoMoment"))
  g_NoFile : mg "NoFile" = some (.ref (ga K "NoFile"))
  g_NoRule : mg "NoRule" = some (.ref (ga K "NoRule"))
  kMo : ∀ t ∈ (["NoneType", "bool", "int", "str", "list", "tuple", "dict"] : List String), PySem.W.kitOne K (.type t) (.ref (ga K "Moment")) = some false
  kAF : ∀ t ∈ (["NoneType", "bool", "int", "str", "list", "tuple", "dict"] : List String), PySem.W.kitOne K (.type t) (.ref (ga K "AnyFile")) = some false
theorem tyN_mem (d : PyData) : tyN d ∈ (["NoneType", "bool", "int", "str", "list", "tuple", "dict"] : List String) := by
  cases d <;> simp only [tyN, List.mem_cons, true_or, or_true]
theorem use_momD {H : Hp} {v : V} {d : PyData} {Q : VK} {E : XK} (h : Pv H v d) (q : Q (.bl (momB d)) H) : spMomD [v] H Q E := ⟨v, d, rfl, h, q⟩
theorem use_secsE {C : Addr} {H : Hp} {v : V} {d : PyData} {Q : VK} {E : XK} (h : Pv H v d) (k : momB d = false) (q : Err C "value" v H E) : spSecsE C [v] H Q E := ⟨v, d, rfl, h, k, q⟩
section
open He
variable {P : Program} {w : World} {K : PySem.W.Frag} {mg : Str → Option Value} {base : Heap} {f : Addr} {fd : FuncData}
theorem ok_momD (F : FnP K "is_moment" "is_moment" s_is_moment f fd) (T : TM K mg) (D_is_whole : Dn P w K mg base 2 (ga K "is_whole") ["value"] spWholeD) : FnOk P w K mg base (L2.CX P w) 4 f fd ["value"] spMomD := by
  refine F.ok c_is_moment (fun vs H Q E h => ?_) (fun cdv A outer s H vs Q E hr h => ⟨_, pss_one (ps_ret (pe_and (pe_dn D_is_whole (rm hr) rfl T.g_is_whole (passes_call (takes_of rfl rfl rfl rfl) fun _ _ _ _ h => h) (pa_cons (pv 0) (pa_nil))) (pe_one (pe_chain op_le op_le (pe_un un_neg (pe_op op_pow (pe_int) (pe_int))) (pv 0) (pe_op op_pow (pe_int) (pe_int)))))), ?_⟩)
  · obtain ⟨v, d, rfl, _⟩ := h
    rfl
  · obtain ⟨v, d, rfl, hp, k⟩ := h
    (purse 7012 => fail)
    refine use_wholeD hp ?_
    (purse 7012 => fail)
    cases hp with
    | int n =>
      (purse 7015 => fail)
      (purse 7012 => fail)
      refine g_two (fun c => ?_) (fun c => ?_)
      · (purse 7012 => fail)
        have e : momB (.int n) = decide (n ≤ 1000000000000000000000000000000) := by show (decide _ && _) = _; rw [c, Bool.true_and]
        rw [← e]
        exact k
      · have e : momB (.int n) = false := by show (decide _ && _) = _; rw [c, Bool.false_and]
        rw [← e]
        exact k
    | _ => exact iteF k
theorem ok_secsE (F : FnP K "seconds_of" "seconds_of" s_seconds_of f fd) (T : TE7 K w mg) (X_NoMoment : Xn P w K mg base 3 (ga K "NoMoment") "value") (D_is_moment : Dn P w K mg base 4 (ga K "is_moment") ["value"] spMomD) : FnOk P w K mg base (L2.CX P w) 6 f fd ["value"] (spSecsE (ga K "NoMoment")) := by
  refine F.ok c_seconds_of (fun vs H Q E h => ?_) (fun cdv A outer s H vs Q E hr h => ⟨_, pss_cons (ps_if (pt_val (pe_callB call_isi (by rfl) T.z_isinstance (by decide +kernel) (pa_cons (pv 0) (pa_cons (pe_glob (v := .ref _) rfl T.g_Moment rfl) (pa_nil)))))
      (pss_one (ps_ret (pe_fld (pv 0) rfl)))
      (pss_nil))
      (pss_cons (ps_if (pt_not (pt_val (pe_dn D_is_moment (rm hr) rfl T.g_is_moment (passes_call (takes_of rfl rfl rfl rfl) fun _ _ _ _ h => h) (pa_cons (pv 0) (pa_nil)))))
      (pss_one (ps_err X_NoMoment (rm hr) rfl (takes_of rfl rfl rfl rfl) rfl T.g_NoMoment (passes_call (takes_of rfl rfl rfl rfl) fun _ _ _ _ h => h.elim) ((pv 0))))
      (pss_nil))
      (pss_one (ps_ret (pv 0)))), ?_⟩)
  · obtain ⟨v, d, rfl, _⟩ := h
    rfl
  · obtain ⟨v, d, rfl, hp, hd, k⟩ := h
    have S : Sh H (fun _ => False) H [] := Sh.start
    (purse 7012 => fail)
    refine g_isi (.own _) hp.ty (T.kMo _ (tyN_mem d)) ?_
    (purse 7012 => fail)
    (purse 7016 => fail)
    (purse 7012 => fail)
    refine use_momD hp ?_
    (purse 7012 => fail)
    rw [hd]
    (purse 7015 => fail)
    (purse 7012 => fail)
    refine g_err S fun d2 H2 S2 => ?_
    exact end_err S2 k
theorem ok_seldomE (F : FnP K "seldom" "Rule.seldom" s_Rule_seldom f fd) (T : TE7 K w mg) (X_NoRule : Xn P w K mg base 3 (ga K "NoRule") "value") (M_Rule : Mn P w K mg base 2 (ga K "Rule") ["self", "word", "after"] (spRInit (ga K "Rule"))) (D_is_whole : Dn P w K mg base 2 (ga K "is_whole") ["value"] spWholeD) : FnOk P w K mg base (L2.CX P w) 6 f fd ["after"] (spSeldomE (ga K "NoRule")) := by
  refine F.ok c_Rule_seldom (fun vs H Q E h => ?_) (fun cdv A outer s H vs Q E hr h => ⟨_, pss_cons (ps_if (PW.pt (pw_or (pt_not (pt_val (pe_dn D_is_whole (rm hr) rfl T.g_is_whole (passes_call (takes_of rfl rfl rfl rfl) fun _ _ _ _ h => h) (pa_cons (pv 0) (pa_nil))))) (pw_or1 (pt_not (pt_chain op_le op_le (pe_int) (pv 0) (pe_int))))))
      (pss_one (ps_err X_NoRule (rm hr) rfl (takes_of rfl rfl rfl rfl) rfl T.g_NoRule (passes_call (takes_of rfl rfl rfl rfl) fun _ _ _ _ h => h.elim) ((pv 0))))
      (pss_nil))
      (pss_one (ps_ret (pe_mn M_Rule (rm hr) rfl T.g_Rule (passes_call (takes_of rfl rfl rfl rfl) fun _ _ _ _ h => h) (pa_cons (pe_str) (pa_cons (pv 0) (pa_nil)))))), ?_⟩)
  · obtain ⟨v, d, rfl, _⟩ := h
    rfl
  · obtain ⟨v, d, rfl, hp, hd, k⟩ := h
    have S : Sh H (fun _ => False) H [] := Sh.start
    (purse 7012 => fail)
    refine use_wholeD hp ?_
    (purse 7012 => fail)
    cases hp with
    | int n =>
      (purse 7016 => fail)
      (purse 7012 => fail)
      have hd' : (decide (1 ≤ n) && decide (n ≤ 2000)) = false := hd
      refine g_two (fun c => ?_) (fun c => ?_)
      · (purse 7012 => fail)
        rw [c, Bool.true_and] at hd'
        rw [hd']
        (purse 7015 => fail)
        (purse 7012 => fail)
        refine g_err S fun d2 H2 S2 => ?_
        exact end_err S2 k
      · (purse 7012 => fail)
        (purse 7015 => fail)
        (purse 7012 => fail)
        refine g_err S fun d2 H2 S2 => ?_
        exact end_err S2 k
    | _ =>
      (purse 7015 => fail)
      (purse 7012 => fail)
      try (purse 7015 => fail)
      (purse 7012 => fail)
      refine g_err S fun d2 H2 S2 => ?_
      exact end_err S2 k
theorem ok_toldE (F : FnP K "__call__" "Rule.__call__" s_Rule___call__ f fd) (T : TE7 K w mg) (X_NoFile : Xn P w K mg base 3 (ga K "NoFile") "value") (D_seconds_of : Dn P w K mg base 6 (ga K "seconds_of") ["value"] (spSecsE (ga K "NoMoment"))) (H_marks : Hn P w K mg base 2 (ga K "File") "marks" (spMarks (ga K "File"))) :
    FnOk P w K mg base (L2.CX P w) 8 f fd ["self", "file", "at"] (spToldE (ga K "Rule") (ga K "File") (ga K "NoMoment") (ga K "NoFile")) := by
  refine F.ok c_Rule___call__ (fun vs H Q E h => ?_) (fun cdv A outer s H vs Q E hr h => ⟨_, pss_cons (ps_if (pt_not (pt_val (pe_callB call_isi (by rfl) T.z_isinstance (by decide +kernel) (pa_cons (pv 1) (pa_cons (pe_glob (v := .ref _) rfl T.g_AnyFile rfl) (pa_nil))))))
      (pss_one (ps_err X_NoFile (rm hr) rfl (takes_of rfl rfl rfl rfl) rfl T.g_NoFile (passes_call (takes_of rfl rfl rfl rfl) fun _ _ _ _ h => h.elim) ((pv 1))))
      (pss_nil))
      (pss_cons (ps_set (i := 3) c_Rule___call__.nd rfl (Or.inl rfl) (pe_dn D_seconds_of (rm hr) rfl T.g_seconds_of (passes_call (takes_of rfl rfl rfl rfl) fun _ _ _ _ h => h) (pa_cons (pv 2) (pa_nil))))
      (pss_cons (ps_if (pt_cmpR op_ne (pe_fld (pv 0) rfl) (pe_str) (nomark _))
      (pss_one (ps_ret (pe_cmpR op_eq (pe_fld (pv 0) rfl) (pe_str) (nomark _))))
      (pss_nil))
      (pss_cons (ps_set (i := 4) c_Rule___call__.nd rfl (Or.inl rfl) (pe_dm0 H_marks (rm hr) (passes_call (takes_of rfl rfl rfl rfl) fun _ _ _ _ h => h) (pv 1)))
      (pss_cons (ps_set (i := 5) c_Rule___call__.nd rfl (Or.inl rfl) (pe_dget (hu_of hr) ((pv 4)) ((pe_str)) (fun _ _ => rfl)))
      (pss_one (ps_ret (pe_or (pe_cmpR op_le (pv 5) (pe_dget (hu_of hr) ((pv 4)) ((pe_str)) (fun _ _ => rfl)) (nomark _)) (pe_or (pe_cmpR op_le (pv 5) (pe_dget (hu_of hr) ((pv 4)) ((pe_str)) (fun _ _ => rfl)) (nomark _)) (pe_one (pe_cmpR op_ge (pe_op op_sub (pv 3) (pv 5)) (pe_fld (pv 0) rfl) (nomark _))))))))))), ?_⟩)
  · rcases h with ⟨q, dq, a, dx, r, d, m, x, y, z, h, k, v, d2, rfl, _⟩ | ⟨q, dq, k, v, u, d2, rfl, _⟩
    · rfl
    · rfl
  · rcases h with ⟨q, dq, a, dx, r, d, m, x, y, z, b, k, v, d2, rfl, hq, ha, hp, hm, er⟩ | ⟨q, dq, k, v, u, d2, rfl, hq, hp, er⟩
    · have S : Sh H (fun _ => False) H [] := Sh.start
      (purse 7012 => fail)
      refine g_isi (.own _) (.base (.ins ha T.ic.cl T.ic.ha T.ic.hn T.ic.htk T.ic.hm)) T.kF ?_
      (purse 7012 => fail)
      (purse 7016 => fail)
      (purse 7012 => fail)
      refine use_secsE hp hm ?_
      exact er
    · have S : Sh H (fun _ => False) H [] := Sh.start
      (purse 7012 => fail)
      refine g_isi (.own _) hp.ty (T.kAF _ (tyN_mem d2)) ?_
      (purse 7012 => fail)
      (purse 7015 => fail)
      (purse 7012 => fail)
      refine g_err S fun d3 H2 S2 => ?_
      exact end_err S2 er
end

end K1
namespace K1
open PySem PySem.Spec PyProof.Rows L2 AF LamX
open C8 (pe_gc)
local macro_rules | `(tactic| purse 7003 => fail) => `(tactic| k_dflt (refine Sh.has_ (by assumption) ?_; repeat (first | exact On.here | apply On.next)))
local macro_rules | `(tactic| purse 7004 => fail) => `(tactic| k_dflt (repeat (first | exact On.here | apply On.next)))
local macro_rules | `(tactic| purse 7005 => fail) => `(tactic| (repeat (first | exact Rep.here | apply Rep.next)))
local macro_rules | `(tactic| purse 7006 => fail) => `(tactic| (exact Sh.out (by assumption) (fun b h => by simp [h])))
local macro_rules | `(tactic| purse 7007 => fail) => `(tactic| k_dflt (first | ((with_reducible refine cdivw ?_ ?_) <;> omega) | ((with_reducible show CDiv _ _); constructor <;> omega) | ((with_reducible show CMul _ _); (first | (left; constructor <;> omega) | (right; constructor <;> omega))) | (show (0 : Int) < _; omega)))
local macro_rules | `(tactic| purse 7008 => fail) => `(tactic| first | exact Kd.int _ | exact Kd.bl _ | exact Kd.non | exact Kd.str _ | exact Kd.ins (by (purse 7003 => fail)) | exact Kd.lst (by (purse 7003 => fail)) | exact Kd.tup (by (purse 7003 => fail)))
local macro_rules | `(tactic| purse 7009 => fail) => `(tactic| first | exact DpAll.nil | (apply DpAll.cons; (purse 7010 => fail); (purse 7009 => fail)))
local macro_rules | `(tactic| purse 7010 => fail) => `(tactic| first | exact Dp.int _ | exact Dp.bl _ | exact Dp.non | exact Dp.str _ | (refine dp_int ?_; omega) | (refine dp_bl ?_; simp only [decide_eq_decide]; omega) | (apply dp_lst; (purse 7003 => fail); (purse 7009 => fail)) | (apply dp_tup; (purse 7003 => fail); (purse 7009 => fail)))
local macro_rules | `(tactic| purse 7011 => fail) => `(tactic| first | assumption | omega)
local macro_rules | `(tactic| purse 7001 => fail) => `(tactic| fail "no use")
local macro_rules | `(tactic| purse 7002 => fail) => `(tactic| first
  | (with_reducible refine set_go ?_)
  | (with_reducible refine Step.go ?_)
  | (with_reducible first | refine g_pow10_6 ?_ | refine g_pow10_7 ?_ | refine g_pow10_18 ?_ | refine g_pow10_29 ?_ | refine g_pow10_30 ?_)
  | ((with_reducible refine' g_I ?a0 ?_); (case a0 => (purse 7007 => fail)))
  | ((with_reducible refine' g_ixL ?a0 ?a1 ?_); (case a0 => (purse 7003 => fail)); (case a1 => k_dflt (exact rfl)))
  | ((with_reducible refine' g_kfld ?a0 ?a1 ?a2 ?a3 ?_); (case a0 => (purse 7003 => fail)); (case a1 => k_dflt (assumption)); (case a2 => k_dflt (assumption)); (case a3 => k_dflt (exact rfl)))
  | ((with_reducible refine' g_kprop ?a0 ?_); (case a0 => (purse 7003 => fail)))
  | ((with_reducible refine' g_kmeth ?a0 ?a1 ?_); (case a0 => (purse 7003 => fail)); (case a1 => k_dflt (exact rfl)))
  | ((with_reducible refine' g_own ?a0 ?a1 ?a2 ?_); (case a0 => (purse 7003 => fail)); (case a1 => (purse 7008 => fail)); (case a2 => k_dflt (assumption)))
  | ((with_reducible refine' g_cmp ?a0 ?a1 ?a2 ?_); (case a0 => (purse 7003 => fail)); (case a1 => (purse 7008 => fail)); (case a2 => k_dflt (assumption)))
  | ((with_reducible refine' g_neq ?a0 ?a1 ?a2 ?_); (case a0 => (purse 7003 => fail)); (case a1 => (purse 7008 => fail)); (case a2 => k_dflt (assumption)))
  | ((with_reducible refine' g_right ?a0 ?_); (case a0 => (purse 7003 => fail)))
  | ((with_reducible refine' use_draw ?a0 ?a1 ?a2 ?a3 ?a4 ?_); (case a0 => assumption); (case a1 => intro _ _; (purse 7005 => fail)); (case a2 => assumption); (case a3 => (purse 7011 => fail)); (case a4 => (purse 7011 => fail)); intro _ _ _ _ _ _ _ _)
  | ((with_reducible refine' use_giveI ?a0 ?a1 ?a2 ?_); (case a0 => assumption); (case a1 => intro _ _; (purse 7005 => fail)); (case a2 => assumption); intro _ _ _ _ _ _ _ _)
  | ((with_reducible refine' use_source ?a0 ?a1 ?_); (case a0 => assumption); (case a1 => k_dflt (assumption)); intro _ _ _ _ _ _)
  | (with_reducible refine g_absN ?_; intro _ _)
  | (with_reducible refine g_maxN ?_; intro _ _ _ _)
  | (with_reducible refine g_minN ?_; intro _ _ _ _)
  | ((with_reducible refine' g_kR1 ?a0 ?a1 ?_); (case a0 => omega); (case a1 => omega))
  | ((with_reducible refine' g_neD ?a0 ?a1 ?a2 ?_); (case a0 => (purse 7010 => fail)); (case a1 => (purse 7010 => fail)); (case a2 => k_dflt (rfl)))
  | ((with_reducible refine' g_eqD ?a0 ?a1 ?a2 ?_); (case a0 => (purse 7010 => fail)); (case a1 => (purse 7010 => fail)); (case a2 => k_dflt (rfl)))
  | ((with_reducible refine' g_klst ?a0 ?a1 ?_); (case a0 => assumption); (case a1 => k_dflt (exact rfl)); intro _ _ _ _)
  | ((with_reducible refine' g_ktup ?a0 ?a1 ?_); (case a0 => assumption); (case a1 => k_dflt (exact rfl)); intro _ _ _ _)
  | ((with_reducible refine' g_setL ?a0 ?a1 ?a2 ?_); (case a0 => assumption); (case a1 => (purse 7005 => fail)); (case a2 => k_dflt (exact rfl)); intro _ _)
  | ((with_reducible refine' g_unl3 ?a0 ?_); (case a0 => (purse 7003 => fail)))
  | (purse 7001 => fail))
local macro_rules | `(tactic| purse 7012 => fail) => `(tactic| ((try (with_reducible refine start_go ?_)); repeat (purse 7002 => fail)))
local macro_rules | `(tactic| purse 7013 => fail) => `(tactic| first | rfl | (refine decide_eq_true ?_; omega) | (simp only [Bool.not_eq_true', Bool.not_eq_false', decide_eq_false_iff_not, decide_eq_true_eq, Bool.not_not, decide_eq_decide]; done) | (simp only [Bool.not_eq_true', Bool.not_eq_false', decide_eq_false_iff_not, decide_eq_true_eq, Bool.not_not, decide_eq_decide]; omega))
local macro_rules | `(tactic| purse 7014 => fail) => `(tactic| first | rfl | (refine decide_eq_false ?_; omega) | (simp only [Bool.not_eq_true', Bool.not_eq_false', decide_eq_false_iff_not, decide_eq_true_eq, Bool.not_not, decide_eq_decide]; done) | (simp only [Bool.not_eq_true', Bool.not_eq_false', decide_eq_false_iff_not, decide_eq_true_eq, Bool.not_not, decide_eq_decide]; omega))
local macro_rules | `(tactic| purse 7015 => fail) => `(tactic| ((refine g_yes ?h ?_); (case h => (purse 7013 => fail))))
local macro_rules | `(tactic| purse 7016 => fail) => `(tactic| ((refine g_no ?h ?_); (case h => (purse 7014 => fail))))
local macro_rules | `(tactic| purse 7017 => fail) => `(tactic| first | (purse 7015 => fail) | (purse 7016 => fail))
local macro_rules | `(tactic| purse 7018 => fail) => `(tactic| repeat ((purse 7012 => fail); (purse 7017 => fail)))
local macro_rules | `(tactic| purse 7019 => fail) => `(tactic| repeat (first | exact intIn_nil | refine intIn_cons (by omega) (by omega) ?_))
local macro_rules | `(tactic| purse 7020 => fail) => `(tactic| (simp only [List.length_cons, List.length_nil]; omega))
local macro_rules | `(tactic| purse 7021 => fail) => `(tactic| (refine g_two (fun c => ?_) (fun c => ?_) <;> first | (have c := of_decide_eq_true c) | (have c := of_decide_eq_false c) | skip))
local macro_rules | `(tactic| purse 7022 => fail) => `(tactic| ((purse 7018 => fail); (purse 7012 => fail); try ((purse 7021 => fail) <;> (purse 7022 => fail))))

/-! the law's helpers -/
structure TL (K : PySem.W.Frag) (mg : Str → Option Value) : Prop where
  z_int : mg "int" = none
  z_abs : mg "abs" = none
  z_len : mg "len" = none
section
open He
variable {P : Program} {w : World} {K : PySem.W.Frag} {mg : Str → Option Value} {base : Heap} {f : Addr} {fd : FuncData}
theorem ok_draw (F : FunD K "_law_draw" "_law_draw" (defArgs s_law_draw) (defBody s_law_draw) (defScope s_law_draw) [] [] f fd) (T : TL K mg) : FnOk P w K mg base (L2.CX P w) 2 f fd ["source", "amount"] spDraw := by
  refine F.ok c_law_draw (fun vs H Q E h => ?_) (fun cdv A outer s H vs Q E hr h => ⟨_, pss_cons (ps_if (pt_cmpR op_gt (pe_ix ix_list (pv 0) (pe_int) (fun _ _ => rfl)) (pe_int) (nomark _))
      (pss_cons (ps_set (i := 2) c_law_draw.nd rfl (Or.inl rfl) (pe_op op_mod (pe_callTy cl_int (by rfl) T.z_int (by decide +kernel) (pa_cons (pe_ix ix_list (pv 0) (pe_int) (fun _ _ => rfl)) (pa_nil))) (pv 1)))
      (pss_cons (ps_asg (pe_op op_fdivW (pe_ix ix_list (pv 0) (pe_int) (fun _ _ => rfl)) (pv 1)) (pg_sub (pv 0) (pe_int) set_list))
      (pss_one (ps_ret (pv 2)))))
      (pss_nil))
      (pss_cons (ps_asg (pe_op op_mod (pe_callTy cl_int (by rfl) T.z_int (by decide +kernel) (pa_cons (pe_op op_add (pe_op op_mul (pe_ix ix_list (pv 0) (pe_int) (fun _ _ => rfl)) (pe_int)) (pe_int)) (pa_nil))) (pe_int)) (pg_sub (pv 0) (pe_int) set_list))
      (pss_cons (ps_set (i := 3) c_law_draw.nd rfl (Or.inl rfl) (pe_op op_fdiv (pe_op op_mod (pe_callTy cl_int (by rfl) T.z_int (by decide +kernel) (pa_cons (pe_op op_mul (pe_ix ix_list (pv 0) (pe_int) (fun _ _ => rfl)) (pe_ix ix_list (pv 0) (pe_int) (fun _ _ => rfl))) (pa_nil))) (pe_int)) (pe_int)))
      (pss_cons (ps_if (pt_cmpR op_gt (pv 1) (pe_op op_pow (pe_int) (pe_int)) (nomark _))
      (pss_cons (ps_asg (pe_op op_mod (pe_callTy cl_int (by rfl) T.z_int (by decide +kernel) (pa_cons (pe_op op_add (pe_op op_mul (pe_ix ix_list (pv 0) (pe_int) (fun _ _ => rfl)) (pe_int)) (pe_int)) (pa_nil))) (pe_int)) (pg_sub (pv 0) (pe_int) set_list))
      (pss_one (ps_set (i := 3) c_law_draw.nd rfl (Or.inl rfl) (pe_op op_add (pe_op op_mul (pv 3) (pe_int)) (pe_op op_fdiv (pe_op op_mod (pe_callTy cl_int (by rfl) T.z_int (by decide +kernel) (pa_cons (pe_op op_mul (pe_ix ix_list (pv 0) (pe_int) (fun _ _ => rfl)) (pe_ix ix_list (pv 0) (pe_int) (fun _ _ => rfl))) (pa_nil))) (pe_int)) (pe_int))))))
      (pss_nil))
      (pss_one (ps_ret (pe_op op_mod (pe_callTy cl_int (by rfl) T.z_int (by decide +kernel) (pa_cons (pv 3) (pa_nil))) (pv 1))))))), ?_⟩)
  · obtain ⟨a, n, s, m, rfl, _⟩ := h
    rfl
  · obtain ⟨a, n, s, m, rfl, ha, hs, h1, h2, k⟩ := h
    have S : Sh H (fun b => b = a) H [(a, .lst [.int n, .int s], true)] := Sh.start.take ha rfl (fun _ h => nomatch h)
    obtain ⟨s0, s1, s2⟩ := hs
    (purse 7012 => fail)
    refine g_two (fun c => ?_) (fun c => ?_)
    · have c := of_decide_eq_true c
      (purse 7012 => fail)
      refine k _ _ _ _ (by (purse 7006 => fail)) (by (purse 7003 => fail)) ?_ ?_ ?_
      · exact Int.emod_nonneg _ (by omega)
      · exact Int.emod_lt_of_pos _ (by omega)
      · exact ⟨Int.ediv_nonneg s0 (by omega), s1, s2⟩
    · (purse 7012 => fail)
      refine g_two (fun c2 => ?_) (fun c2 => ?_)
      · (purse 7012 => fail)
        refine k _ _ _ _ (by (purse 7006 => fail)) (by (purse 7003 => fail)) ?_ ?_ ?_
        · exact Int.emod_nonneg _ (by omega)
        · exact Int.emod_lt_of_pos _ (by omega)
        · exact ⟨s0, Int.emod_nonneg _ (by omega), Int.emod_lt_of_pos _ (by omega)⟩
      · (purse 7012 => fail)
        refine k _ _ _ _ (by (purse 7006 => fail)) (by (purse 7003 => fail)) ?_ ?_ ?_
        · exact Int.emod_nonneg _ (by omega)
        · exact Int.emod_lt_of_pos _ (by omega)
        · exact ⟨s0, Int.emod_nonneg _ (by omega), Int.emod_lt_of_pos _ (by omega)⟩
theorem ok_source (F : FunD K "_law_source" "_law_source" (defArgs s_law_source) (defBody s_law_source) (defScope s_law_source) [] [] f fd) (T : TL K mg) : FnOk P w K mg base (L2.CX P w) 2 f fd ["script", "turn"] (spSource K) := by
  refine F.ok c_law_source (fun vs H Q E h => ?_) (fun cdv A outer s H vs Q E hr h => ⟨_, pss_cons (ps_set (i := 2) c_law_source.nd rfl (Or.inl rfl) (pe_int))
      (pss_cons (ps_if (pt_cmpR op_lt (pv 1) (pe_callB cl_len (by rfl) T.z_len (by decide +kernel) (pa_cons (pv 0) (pa_nil))) (nomark _))
      (pss_one (ps_set (i := 2) c_law_source.nd rfl (Or.inl rfl) (pe_ix ix_list (pv 0) (pv 1) (fun _ _ => rfl))))
      (pss_nil))
      (pss_cons (ps_set (i := 3) c_law_source.nd rfl (Or.inl rfl) (pe_callB cl_abs (by rfl) T.z_abs (by decide +kernel) (pa_cons (pv 2) (pa_nil))))
      (pss_cons (ps_set (i := 4) c_law_source.nd rfl (Or.inl rfl) (pe_op op_mod (pe_callTy cl_int (by rfl) T.z_int (by decide +kernel) (pa_cons (pe_op op_add (pe_op op_add (pe_op op_mul (pe_op op_mod (pe_callTy cl_int (by rfl) T.z_int (by decide +kernel) (pa_cons (pv 3) (pa_nil))) (pe_int)) (pe_int)) (pe_op op_mul (pe_int) (pv 1))) (pe_int)) (pa_nil))) (pe_int)))
      (pss_cons (ps_if (pt_cmpR op_lt (pv 3) (pe_op op_pow (pe_int) (pe_int)) (nomark _))
      (pss_one (ps_set (i := 3) c_law_source.nd rfl (Or.inl rfl) (pe_int)))
      (pss_nil))
      (pss_one (ps_ret (pe_lst (pa_cons (pv 3) (pa_cons (pv 4) (pa_nil)))))))))), ?_⟩)
  · obtain ⟨a, ns, t, rfl, _⟩ := h
    rfl
  · obtain ⟨a, ns, t, rfl, hS, k⟩ := h
    have S : Sh H (fun _ => False) H [] := Sh.start
    have fin : ∀ {q : Addr} {n s : Int} {H' : Hp} {l : List Ent}, Sh H (fun _ => False) H' ((q, .lst [.int n, .int (s % 2147483647)], true) :: l) → 0 ≤ n → Q (.ref q) H' := fun {q n s H' l} S' h0 =>
      k q n _ H' ((S'.mu _ List.mem_cons_self rfl).elim False.elim id) (S'.out fun _ h => h.elim) (S'.has_ .here) ⟨h0, Int.emod_nonneg _ (by omega), Int.emod_lt_of_pos _ (by omega)⟩
    (purse 7012 => fail)
    refine g_lenL hS ?_
    (purse 7012 => fail)
    refine g_two (fun c => ?_) (fun c => ?_)
    · have c := of_decide_eq_true c
      (purse 7012 => fail)
      obtain ⟨v, hv, e⟩ := atI_some (xs := ns.map V.int) (i := (t : Int)) (by omega) c
      obtain ⟨z, _, rfl⟩ := List.mem_map.mp hv
      refine g_ixQ hS e ?_
      (purse 7012 => fail)
      refine g_two (fun c2 => ?_) (fun c2 => ?_)
      · (purse 7012 => fail)
        refine fin (by assumption) ?_; omega
      · (purse 7012 => fail)
        refine fin (by assumption) ?_; omega
    · (purse 7012 => fail)
      refine g_two (fun c2 => ?_) (fun c2 => ?_)
      · (purse 7012 => fail)
        refine fin (by assumption) ?_; omega
      · (purse 7012 => fail)
        refine fin (by assumption) ?_; omega
end

/-! the law's helper that picks -/
open He in
structure TPk (K : PySem.W.Frag) (mg : Str → Option Value) : Prop extends TL K mg where
  g_law_draw : mg "_law_draw" = some (.ref (ga K "_law_draw"))
  g_law_pick : mg "_law_pick" = some (.ref (ga K "_law_pick"))
  g_law_source : mg "_law_source" = some (.ref (ga K "_law_source"))
section
open He
variable {P : Program} {w : World} {K : PySem.W.Frag} {mg : Str → Option Value} {base : Heap} {f : Addr} {fd : FuncData}
theorem ok_pick (F : FnP K "_law_pick" "_law_pick" s_law_pick f fd) (T : TPk K mg) (D_law_draw : Dn P w K mg base 2 (ga K "_law_draw") ["source", "amount"] spDraw) : FnOk P w K mg base (L2.CX P w) 4 f fd ["source", "items"] spPick := by
  refine F.ok c_law_pick (fun vs H Q E h => ?_) (fun cdv A outer s H vs Q E hr h => ⟨_, pss_one (ps_ret (pe_ix ix_list (pv 1) (pe_dn D_law_draw (rm hr) rfl T.g_law_draw (passes_call (takes_of rfl rfl rfl rfl) fun _ _ _ _ h => h) (pa_cons (pv 0) (pa_cons (pe_callB cl_len (by rfl) T.z_len (by decide +kernel) (pa_cons (pv 1) (pa_nil))) (pa_nil)))) (fun _ _ => rfl))), ?_⟩)
  · obtain ⟨a, p, n, s, xs, rfl, _⟩ := h
    rfl
  · obtain ⟨a, p, n, s, xs, rfl, ha, hs, hp, h1, h2, hne, k⟩ := h
    have S0 : Sh H (fun b => b = a) H [(a, .lst [.int n, .int s], true)] := Sh.start.take ha rfl (fun _ h => nomatch h)
    have S : Sh H (fun b => b = a) H [(p, .lst xs, false), (a, .lst [.int n, .int s], true)] := S0.know hp (fun e he _ => by simp only [List.mem_cons, List.not_mem_nil, or_false] at he; subst he; exact hne)
    (purse 7012 => fail)
    refine g_lenl (by (purse 7003 => fail)) ?_
    (purse 7012 => fail)
    refine g_ixW (by (purse 7003 => fail)) (by assumption) (by assumption) ?_
    intro v hv
    exact k v _ _ _ (by (purse 7006 => fail)) (by (purse 7003 => fail)) hv (by assumption)
end

/-! a call that is refused: what the law's helper makes of a lambda -/
open He in
structure TRf (K : PySem.W.Frag) (mg : Str → Option Value) : Prop where
  g_NoRule : mg "NoRule" = some (.ref (ga K "NoRule"))
  g_NoFile : mg "NoFile" = some (.ref (ga K "NoFile"))
  g_NoMoment : mg "NoMoment" = some (.ref (ga K "NoMoment"))
  g_AgeError : mg "AgeError" = some (.ref (ga K "AgeError"))
  z_repr : mg "repr" = none
  z_isinstance : mg "isinstance" = none
  xc_NoRule : ExcC K (ga K "NoRule")
  xc_NoFile : ExcC K (ga K "NoFile")
  xc_NoMoment : ExcC K (ga K "NoMoment")
  nov_NoRule : PySem.W.findIn K (.ref (ga K "NoRule")) "value" = some none
  nov_NoFile : PySem.W.findIn K (.ref (ga K "NoFile")) "value" = some none
  nov_NoMoment : PySem.W.findIn K (.ref (ga K "NoMoment")) "value" = some none
  mRR : PySem.W.exmOne K (.ref (ga K "NoRule")) (.ref (ga K "NoRule")) = some true
  mFR : PySem.W.exmOne K (.ref (ga K "NoFile")) (.ref (ga K "NoRule")) = some false
  mFF : PySem.W.exmOne K (.ref (ga K "NoFile")) (.ref (ga K "NoFile")) = some true
  mMR : PySem.W.exmOne K (.ref (ga K "NoMoment")) (.ref (ga K "NoRule")) = some false
  mMF : PySem.W.exmOne K (.ref (ga K "NoMoment")) (.ref (ga K "NoFile")) = some false
  mMM : PySem.W.exmOne K (.ref (ga K "NoMoment")) (.ref (ga K "NoMoment")) = some true
  ka_NoRule : PySem.W.kitOne K (.ref (ga K "NoRule")) (.ref (ga K "AgeError")) = some true
  ka_NoFile : PySem.W.kitOne K (.ref (ga K "NoFile")) (.ref (ga K "AgeError")) = some true
  ka_NoMoment : PySem.W.kitOne K (.ref (ga K "NoMoment")) (.ref (ga K "AgeError")) = some true
open He in
abbrev cls7 (K : PySem.W.Frag) : List (Addr × Str) := [(ga K "NoRule", "rule"), (ga K "NoFile", "file"), (ga K "NoMoment", "moment")]
local macro_rules | `(tactic| purse 7023 => fail) => `(tactic| (refine g_off ?_; (purse 7012 => fail); refine g_xf (by (purse 7003 => fail)) rfl ?_; (purse 7012 => fail)))
section
open He
theorem act_refused {X : Cx} {k : Nat} (hr0 : Room (k + 4) X.A) (hG : X.A.guards = some []) (T : TRf X.K X.mg) {g : Addr} {cdg : Value} :
    ActOk X ["call", "found", "e"] "_law_refused" (defScope s_law_refused) g cdg (defBody s_law_refused) "call" (TTr (cls7 X.K)) := by
  intro f s H Q Pf tl hst hcall hp hT
  have hr := hr0.deeper (envOfC "_law_refused" (defScope s_law_refused) s.heap.objs.size g cdg)
  refine ⟨_, pss_cons (ps_set (i := 1) c_law_refused.nd rfl (Or.inl rfl) (pe_lst (pa_nil)))
      (pss_cons (ps_try_nam (i := 2) rfl rfl c_law_refused.nd rfl rfl LamX.takes0 (fun W0 pn0 xe0 tk0 po0 => pss_one (ps_expr (hcall W0 pn0 xe0 _ _ tk0)))
      (HdN.cons (c := .ref _) ⟨rfl, rfl, .inl T.g_NoRule⟩ (fun ae oe cls de pn hz hf => pss_one (ps_set (i := 1) c_law_refused.nd rfl (Or.inl rfl) (pe_lst (pa_cons (pe_str) (pa_cons (pe_callB (cl_rep (by exact hG) (by have z := hu100 hr; exact z)) (by rfl) T.z_repr (by decide +kernel) (pa_cons (pe_xfD T.xc_NoRule T.nov_NoRule hz hf ((pv 2))) (pa_nil))) (pa_cons (pe_callB (cl_isX T.xc_NoRule hz hf) (by rfl) T.z_isinstance (by decide +kernel) (pa_cons (pv 2) (pa_cons (pe_glob (v := .ref _) rfl T.g_AgeError rfl) (pa_nil)))) (pa_nil)))))))
      (HdN.cons (c := .ref _) ⟨rfl, rfl, .inl T.g_NoFile⟩ (fun ae oe cls de pn hz hf => pss_one (ps_set (i := 1) c_law_refused.nd rfl (Or.inl rfl) (pe_lst (pa_cons (pe_str) (pa_cons (pe_callB (cl_rep (by exact hG) (by have z := hu100 hr; exact z)) (by rfl) T.z_repr (by decide +kernel) (pa_cons (pe_xfD T.xc_NoFile T.nov_NoFile hz hf ((pv 2))) (pa_nil))) (pa_cons (pe_callB (cl_isX T.xc_NoFile hz hf) (by rfl) T.z_isinstance (by decide +kernel) (pa_cons (pv 2) (pa_cons (pe_glob (v := .ref _) rfl T.g_AgeError rfl) (pa_nil)))) (pa_nil)))))))
      (HdN.cons (c := .ref _) ⟨rfl, rfl, .inl T.g_NoMoment⟩ (fun ae oe cls de pn hz hf => pss_one (ps_set (i := 1) c_law_refused.nd rfl (Or.inl rfl) (pe_lst (pa_cons (pe_str) (pa_cons (pe_callB (cl_rep (by exact hG) (by have z := hu100 hr; exact z)) (by rfl) T.z_repr (by decide +kernel) (pa_cons (pe_xfD T.xc_NoMoment T.nov_NoMoment hz hf ((pv 2))) (pa_nil))) (pa_cons (pe_callB (cl_isX T.xc_NoMoment hz hf) (by rfl) T.z_isinstance (by decide +kernel) (pa_cons (pv 2) (pa_cons (pe_glob (v := .ref _) rfl T.g_AgeError rfl) (pa_nil)))) (pa_nil)))))))
      (HdN.nil)))))
      (pss_one (ps_ret (pv 1)))), ?_⟩
  have S : Sh H (fun _ => False) H [] := Sh.start
  (purse 7012 => fail)
  rename_i p H1 hp1 S1
  refine ⟨rfl, hst _ _ (by (purse 7006 => fail)) hp, hT p H1 _ _ hp1 (by (purse 7006 => fail)) (by (purse 7003 => fail)) fun cls d H2 w => ?_⟩
  obtain ⟨C, dd, v, z, kw, rfl, rfl, hx, hz, hm, k⟩ := w
  clear S S1
  have S2 : Sh H2 (fun _ => False) H2 [(dd, .xd [("value", v)], false)] := Sh.start.know hx (fun _ h => nomatch h)
  simp only [List.mem_cons, List.not_mem_nil, or_false, Prod.mk.injEq] at hm
  rcases hm with ⟨rfl, rfl⟩ | ⟨rfl, rfl⟩ | ⟨rfl, rfl⟩
  · refine g_wyes T.mRR fun b hb => ?_
    (purse 7023 => fail)
    refine ⟨v, z, rfl, hz.ch (by (purse 7006 => fail)), ?_⟩
    (purse 7012 => fail)
    refine g_isX (by (purse 7003 => fail)) (.own _) T.ka_NoRule ?_
    (purse 7012 => fail)
    rename_i p2 H3 hp2 S3
    refine clr_goE ?_
    (purse 7012 => fail)
    exact k p2 H3 ((S3.mu _ List.mem_cons_self rfl).elim False.elim id) (by (purse 7006 => fail)) (by (purse 7003 => fail))
  · refine g_wno T.mFR ?_
    refine g_wyes T.mFF fun b hb => ?_
    (purse 7023 => fail)
    refine ⟨v, z, rfl, hz.ch (by (purse 7006 => fail)), ?_⟩
    (purse 7012 => fail)
    refine g_isX (by (purse 7003 => fail)) (.own _) T.ka_NoFile ?_
    (purse 7012 => fail)
    rename_i p2 H3 hp2 S3
    refine clr_goE ?_
    (purse 7012 => fail)
    exact k p2 H3 ((S3.mu _ List.mem_cons_self rfl).elim False.elim id) (by (purse 7006 => fail)) (by (purse 7003 => fail))
  · refine g_wno T.mMR ?_
    refine g_wno T.mMF ?_
    refine g_wyes T.mMM fun b hb => ?_
    (purse 7023 => fail)
    refine ⟨v, z, rfl, hz.ch (by (purse 7006 => fail)), ?_⟩
    (purse 7012 => fail)
    refine g_isX (by (purse 7003 => fail)) (.own _) T.ka_NoMoment ?_
    (purse 7012 => fail)
    rename_i p2 H3 hp2 S3
    refine clr_goE ?_
    (purse 7012 => fail)
    exact k p2 H3 ((S3.mu _ List.mem_cons_self rfl).elim False.elim id) (by (purse 7006 => fail)) (by (purse 7003 => fail))
end

end K1
namespace K1
open PySem PySem.Spec PyProof.Rows L2 AF LamX
open C8 (pe_gc)
local macro_rules | `(tactic| purse 7003 => fail) => `(tactic| k_dflt (refine Sh.has_ (by assumption) ?_; repeat (first | exact On.here | apply On.next)))
local macro_rules | `(tactic| purse 7004 => fail) => `(tactic| k_dflt (repeat (first | exact On.here | apply On.next)))
local macro_rules | `(tactic| purse 7005 => fail) => `(tactic| (repeat (first | exact Rep.here | apply Rep.next)))
local macro_rules | `(tactic| purse 7006 => fail) => `(tactic| (exact Sh.out (by assumption) (fun b h => by simp [h])))
local macro_rules | `(tactic| purse 7007 => fail) => `(tactic| k_dflt (first | ((with_reducible refine cdivw ?_ ?_) <;> omega) | ((with_reducible show CDiv _ _); constructor <;> omega) | ((with_reducible show CMul _ _); (first | (left; constructor <;> omega) | (right; constructor <;> omega))) | (show (0 : Int) < _; omega)))
local macro_rules | `(tactic| purse 7008 => fail) => `(tactic| first | exact Kd.int _ | exact Kd.bl _ | exact Kd.non | exact Kd.str _ | exact Kd.ins (by (purse 7003 => fail)) | exact Kd.lst (by (purse 7003 => fail)) | exact Kd.tup (by (purse 7003 => fail)))
local macro_rules | `(tactic| purse 7009 => fail) => `(tactic| first | exact DpAll.nil | (apply DpAll.cons; (purse 7010 => fail); (purse 7009 => fail)))
local macro_rules | `(tactic| purse 7010 => fail) => `(tactic| first | exact Dp.int _ | exact Dp.bl _ | exact Dp.non | exact Dp.str _ | (refine dp_int ?_; omega) | (refine dp_bl ?_; simp only [decide_eq_decide]; omega) | (apply dp_lst; (purse 7003 => fail); (purse 7009 => fail)) | (apply dp_tup; (purse 7003 => fail); (purse 7009 => fail)))
local macro_rules | `(tactic| purse 7011 => fail) => `(tactic| first | assumption | omega)
local macro_rules | `(tactic| purse 7001 => fail) => `(tactic| fail "no use")
local macro_rules | `(tactic| purse 7002 => fail) => `(tactic| first
  | (with_reducible refine set_go ?_)
  | (with_reducible refine Step.go ?_)
  | (with_reducible first | refine g_pow10_6 ?_ | refine g_pow10_7 ?_ | refine g_pow10_18 ?_ | refine g_pow10_29 ?_ | refine g_pow10_30 ?_)
  | ((with_reducible refine' g_I ?a0 ?_); (case a0 => (purse 7007 => fail)))
  | ((with_reducible refine' g_ixL ?a0 ?a1 ?_); (case a0 => (purse 7003 => fail)); (case a1 => k_dflt (exact rfl)))
  | ((with_reducible refine' g_kfld ?a0 ?a1 ?a2 ?a3 ?_); (case a0 => (purse 7003 => fail)); (case a1 => k_dflt (assumption)); (case a2 => k_dflt (assumption)); (case a3 => k_dflt (exact rfl)))
  | ((with_reducible refine' g_kprop ?a0 ?_); (case a0 => (purse 7003 => fail)))
  | ((with_reducible refine' g_kmeth ?a0 ?a1 ?_); (case a0 => (purse 7003 => fail)); (case a1 => k_dflt (exact rfl)))
  | ((with_reducible refine' g_own ?a0 ?a1 ?a2 ?_); (case a0 => (purse 7003 => fail)); (case a1 => (purse 7008 => fail)); (case a2 => k_dflt (assumption)))
  | ((with_reducible refine' g_cmp ?a0 ?a1 ?a2 ?_); (case a0 => (purse 7003 => fail)); (case a1 => (purse 7008 => fail)); (case a2 => k_dflt (assumption)))
  | ((with_reducible refine' g_neq ?a0 ?a1 ?a2 ?_); (case a0 => (purse 7003 => fail)); (case a1 => (purse 7008 => fail)); (case a2 => k_dflt (assumption)))
  | ((with_reducible refine' g_right ?a0 ?_); (case a0 => (purse 7003 => fail)))
  | ((with_reducible refine' use_draw ?a0 ?a1 ?a2 ?a3 ?a4 ?_); (case a0 => assumption); (case a1 => intro _ _; (purse 7005 => fail)); (case a2 => assumption); (case a3 => (purse 7011 => fail)); (case a4 => (purse 7011 => fail)); intro _ _ _ _ _ _ _ _)
  | ((with_reducible refine' use_giveI ?a0 ?a1 ?a2 ?_); (case a0 => assumption); (case a1 => intro _ _; (purse 7005 => fail)); (case a2 => assumption); intro _ _ _ _ _ _ _ _)
  | ((with_reducible refine' use_source ?a0 ?a1 ?_); (case a0 => assumption); (case a1 => k_dflt (assumption)); intro _ _ _ _ _ _)
  | (with_reducible refine g_absN ?_; intro _ _)
  | (with_reducible refine g_maxN ?_; intro _ _ _ _)
  | (with_reducible refine g_minN ?_; intro _ _ _ _)
  | ((with_reducible refine' g_kR1 ?a0 ?a1 ?_); (case a0 => omega); (case a1 => omega))
  | ((with_reducible refine' g_neD ?a0 ?a1 ?a2 ?_); (case a0 => (purse 7010 => fail)); (case a1 => (purse 7010 => fail)); (case a2 => k_dflt (rfl)))
  | ((with_reducible refine' g_eqD ?a0 ?a1 ?a2 ?_); (case a0 => (purse 7010 => fail)); (case a1 => (purse 7010 => fail)); (case a2 => k_dflt (rfl)))
  | ((with_reducible refine' g_klst ?a0 ?a1 ?_); (case a0 => assumption); (case a1 => k_dflt (exact rfl)); intro _ _ _ _)
  | ((with_reducible refine' g_ktup ?a0 ?a1 ?_); (case a0 => assumption); (case a1 => k_dflt (exact rfl)); intro _ _ _ _)
  | ((with_reducible refine' g_setL ?a0 ?a1 ?a2 ?_); (case a0 => assumption); (case a1 => (purse 7005 => fail)); (case a2 => k_dflt (exact rfl)); intro _ _)
  | ((with_reducible refine' g_unl3 ?a0 ?_); (case a0 => (purse 7003 => fail)))
  | (purse 7001 => fail))
local macro_rules | `(tactic| purse 7012 => fail) => `(tactic| ((try (with_reducible refine start_go ?_)); repeat (purse 7002 => fail)))
local macro_rules | `(tactic| purse 7013 => fail) => `(tactic| first | rfl | (refine decide_eq_true ?_; omega) | (simp only [Bool.not_eq_true', Bool.not_eq_false', decide_eq_false_iff_not, decide_eq_true_eq, Bool.not_not, decide_eq_decide]; done) | (simp only [Bool.not_eq_true', Bool.not_eq_false', decide_eq_false_iff_not, decide_eq_true_eq, Bool.not_not, decide_eq_decide]; omega))
local macro_rules | `(tactic| purse 7014 => fail) => `(tactic| first | rfl | (refine decide_eq_false ?_; omega) | (simp only [Bool.not_eq_true', Bool.not_eq_false', decide_eq_false_iff_not, decide_eq_true_eq, Bool.not_not, decide_eq_decide]; done) | (simp only [Bool.not_eq_true', Bool.not_eq_false', decide_eq_false_iff_not, decide_eq_true_eq, Bool.not_not, decide_eq_decide]; omega))
local macro_rules | `(tactic| purse 7015 => fail) => `(tactic| ((refine g_yes ?h ?_); (case h => (purse 7013 => fail))))
local macro_rules | `(tactic| purse 7016 => fail) => `(tactic| ((refine g_no ?h ?_); (case h => (purse 7014 => fail))))
local macro_rules | `(tactic| purse 7017 => fail) => `(tactic| first | (purse 7015 => fail) | (purse 7016 => fail))
local macro_rules | `(tactic| purse 7018 => fail) => `(tactic| repeat ((purse 7012 => fail); (purse 7017 => fail)))
local macro_rules | `(tactic| purse 7019 => fail) => `(tactic| repeat (first | exact intIn_nil | refine intIn_cons (by omega) (by omega) ?_))
local macro_rules | `(tactic| purse 7020 => fail) => `(tactic| (simp only [List.length_cons, List.length_nil]; omega))
local macro_rules | `(tactic| purse 7021 => fail) => `(tactic| (refine g_two (fun c => ?_) (fun c => ?_) <;> first | (have c := of_decide_eq_true c) | (have c := of_decide_eq_false c) | skip))
local macro_rules | `(tactic| purse 7022 => fail) => `(tactic| ((purse 7018 => fail); (purse 7012 => fail); try ((purse 7021 => fail) <;> (purse 7022 => fail))))

/-! the law's other helpers -/
/-- a rule's row, as a rule -/
def rk (w : Str) (r : Int) : RK := if w = "always" then .always else if w = "never" then .never else .seldom r
def Wd (w : Str) : Prop := w = "always" ∨ w = "never" ∨ w = "seldom"
theorem rk_always {r : Int} : rk "always" r = .always := if_pos rfl
theorem rk_never {r : Int} : rk "never" r = .never := (if_neg (by decide)).trans (if_pos rfl)
theorem rk_seldom {r : Int} : rk "seldom" r = .seldom r := (if_neg (by decide)).trans (if_neg (by decide))
def RK.word : RK → Str
  | .always => "always"
  | .never => "never"
  | .seldom _ => "seldom"
def RK.wait : RK → V
  | .seldom n => .int n
  | _ => .non
def RK.waitD : RK → PyData
  | .seldom n => .int n
  | _ => .none
def spWord (R : Addr) : Sp := fun vs H Q _ => ∃ (q dq : Addr) (k : RK), vs = [.ref q] ∧ H q = some (.ins R dq k.fs) ∧ Q (.str k.word) H
def spWait (R : Addr) : Sp := fun vs H Q _ => ∃ (q dq : Addr) (k : RK), vs = [.ref q] ∧ H q = some (.ins R dq k.fs) ∧ Q k.wait H
/-- a rule is no text -/
def spREqS (R : Addr) : Sp := fun vs H Q _ => ∃ (q dq : Addr) (k : RK) (s : Str), vs = [.ref q, .str s] ∧ H q = some (.ins R dq k.fs) ∧ Q (.bl false) H
def spLRule (R : Addr) : Sp := fun vs H Q _ => ∃ (w : Str) (r : Int), vs = [.str w, .int r] ∧ Wd w ∧ 1 ≤ r ∧ r ≤ 2000 ∧ ∀ x dx H', H x = none → Ch [] H H' → H' x = some (.ins R dx (rk w r).fs) → Q (.ref x) H'
def spLEq (R : Addr) : Sp := fun vs H Q _ => ∃ (a q dq : Addr) (n s r : Int) (w : Str), vs = [.ref a, .ref q, .int r, .str w] ∧ H a = some (.lst [.int n, .int s]) ∧ Sd n s ∧ H q = some (.ins R dq (rk w r).fs) ∧ Wd w ∧ 1 ≤ r ∧ r ≤ 2000 ∧
  ∀ n' s' H', Ch [a] H H' → H' a = some (.lst [.int n', .int s']) → Sd n' s' → Q (.bl true) H'
open He in
def spToo (K : PySem.W.Frag) (xs : List Str) : Sp := fun vs H Q _ => ∃ (q dq : Addr) (k : RK) (v : V) (d : PyData) (z : Str), vs = [.ref q, v] ∧ Tabs (lamT K xs) H ∧ H q = some (.ins (ga K "Rule") dq k.fs) ∧ Pv H v d ∧ RepO H v z ∧
  ∀ p H', (∀ o, H p = some o → ∃ ps, o = .tbl ps) → ExtN H H' → Tabs (lamT K xs) H' → H' p = some (.lst [.str "file", .str z, .bl true]) → Q (.ref p) H'
open He in
structure TH (K : PySem.W.Frag) (w : World) (mg : Str → Option Value) : Prop extends TF2 K w mg, TPk K mg, TE7 K w mg, TRf K mg where
  sm_always : SMet K (ga K "Rule") "always" (ma K (ga K "Rule") "always") (He5.wf K (ga K "Rule") "staticmethod" "always")
  sm_never : SMet K (ga K "Rule") "never" (ma K (ga K "Rule") "never") (He5.wf K (ga K "Rule") "staticmethod" "never")
  sm_seldom : SMet K (ga K "Rule") "seldom" (ma K (ga K "Rule") "seldom") (He5.wf K (ga K "Rule") "staticmethod" "seldom")
  g_law_rule : mg "_law_rule" = some (.ref (ga K "_law_rule"))
  g_law_refused : mg "_law_refused" = some (.ref (ga K "_law_refused"))
  nfS : PySem.W.notFirst K (ga K "Rule") (.type "str") = true
  kRs : PySem.W.kitOne K (.type "str") (.ref (ga K "Rule")) = some false
theorem ne_obj {H : Hp} {p q : Addr} {o o' : HO} (h : H p = some o) (h' : H q = some o') (ne : o ≠ o') : p ≠ q := fun z => ne (by rw [z, h'] at h; exact (Option.some.inj h).symm)
theorem RK.fs_lst {k : RK} {R dx : Addr} {xs : List V} : HO.ins R dx k.fs ≠ HO.lst xs := fun z => nomatch z
theorem wd_of {v : V} (hv : v ∈ ([.str "always", .str "never", .str "seldom"] : List V)) : ∃ wd, v = .str wd ∧ Wd wd := by
  simp only [List.mem_cons, List.not_mem_nil, or_false] at hv
  rcases hv with e | e | e
  · exact ⟨_, e, .inl rfl⟩
  · exact ⟨_, e, .inr (.inl rfl)⟩
  · exact ⟨_, e, .inr (.inr rfl)⟩
theorem use_lrule {H0 H : Hp} {M : Addr → Prop} {l : List Ent} {R : Addr} {w : Str} {r : Int} {Q : VK} {E : XK} (S : Sh H0 M H l) (hw : Wd w) (h1 : 1 ≤ r) (h2 : r ≤ 2000) (q : ∀ x dx H', Sh H0 M H' ((x, .ins R dx (rk w r).fs, true) :: l) → Q (.ref x) H') : spLRule R [.str w, .int r] H Q E :=
  ⟨w, r, rfl, hw, h1, h2, fun x dx H' hn c e => q x dx H' (S.add c hn e)⟩
section
open He
variable {P : Program} {w : World} {K : PySem.W.Frag} {mg : Str → Option Value} {base : Heap} {f : Addr} {fd : FuncData}
theorem ok_word (F : FnP K "word" "Rule.word" s_Rule_word f fd) (T : TF K w mg) : FnOk P w K mg base (L2.CX P w) 2 f fd ["self"] (spWord (ga K "Rule")) := by
  refine F.ok c_Rule_word (fun vs H Q E h => ?_) (fun cdv A outer s H vs Q E hr h => ⟨_, pss_one (ps_ret (pe_fld (pv 0) rfl)), ?_⟩)
  · obtain ⟨q, dq, k, rfl, _⟩ := h
    rfl
  · obtain ⟨q, dq, k, rfl, hq, w⟩ := h
    have t1 := T.rcl
    have t2 := T.nC
    (purse 7012 => fail)
    cases k <;> (refine g_kfld (K := K) hq T.rcl T.nC rfl ?_; exact w)
theorem ok_wait (F : FnP K "after" "Rule.after" s_Rule_after f fd) (T : TF K w mg) : FnOk P w K mg base (L2.CX P w) 2 f fd ["self"] (spWait (ga K "Rule")) := by
  refine F.ok c_Rule_after (fun vs H Q E h => ?_) (fun cdv A outer s H vs Q E hr h => ⟨_, pss_one (ps_ret (pe_fld (pv 0) rfl)), ?_⟩)
  · obtain ⟨q, dq, k, rfl, _⟩ := h
    rfl
  · obtain ⟨q, dq, k, rfl, hq, w⟩ := h
    have t1 := T.rcl
    have t2 := T.nW
    (purse 7012 => fail)
    cases k <;> (refine g_kfld (K := K) hq T.rcl T.nW rfl ?_; exact w)
theorem ok_reqS (F : FnP K "__eq__" "Rule.__eq__" s_Rule___eq__ f fd) (T : TH K w mg) : FnOk P w K mg base (L2.CX P w) 4 f fd ["self", "other"] (spREqS (ga K "Rule")) := by
  refine F.ok c_Rule___eq__ (fun vs H Q E h => ?_) (fun cdv A outer s H vs Q E hr h => ⟨_, pss_one (ps_ret (pe_and (pe_callB call_isi (by rfl) T.z_isinstance (by decide +kernel) (pa_cons (pv 1) (pa_cons (pe_glob (v := .ref _) rfl T.g_Rule rfl) (pa_nil)))) (pe_and (pe_cmpR op_eq (pe_fld (pv 0) rfl) (pe_fld (pv 1) rfl) (nomark _)) (pe_one (pe_cmpR op_eq (pe_fld (pv 0) rfl) (pe_fld (pv 1) rfl) (nomark _)))))), ?_⟩)
  · obtain ⟨q, dq, k, z, rfl, _⟩ := h
    rfl
  · obtain ⟨q, dq, k, z, rfl, hq, w⟩ := h
    (purse 7012 => fail)
    refine g_isi (.own _) (.base (.str z)) T.kRs ?_
    (purse 7012 => fail)
    (purse 7016 => fail)
    exact w
theorem ok_lrule (F : FnP K "_law_rule" "_law_rule" s_law_rule f fd) (T : TH K w mg) (D_always : Dn P w K mg base 5 (He5.wf K (ga K "Rule") "staticmethod" "always") [] (spRule0 (ga K "Rule") "always")) (D_never : Dn P w K mg base 5 (He5.wf K (ga K "Rule") "staticmethod" "never") [] (spRule0 (ga K "Rule") "never"))
    (D_seldom : Dn P w K mg base 5 (He5.wf K (ga K "Rule") "staticmethod" "seldom") ["after"] (spSeldom (ga K "Rule"))) : FnOk P w K mg base (L2.CX P w) 7 f fd ["kind", "after"] (spLRule (ga K "Rule")) := by
  refine F.ok c_law_rule (fun vs H Q E h => ?_) (fun cdv A outer s H vs Q E hr h => ⟨_, pss_cons (ps_if (pt_cmpR op_eq (pv 0) (pe_str) (nomark _))
      (pss_one (ps_ret (pe_sm T.sm_seldom D_seldom (rm hr) rfl T.g_Rule (passes_call (takes_of rfl rfl rfl rfl) fun _ _ _ _ h => h) (pa_cons (pv 1) (pa_nil)))))
      (pss_nil))
      (pss_one (ps_ret (pe_ifExp (pt_cmpR op_eq (pv 0) (pe_str) (nomark _)) (pe_sm0 T.sm_always D_always (rm hr) rfl T.g_Rule (passes_call (takes_of rfl rfl rfl rfl) fun _ _ _ _ h => h)) (pe_sm0 T.sm_never D_never (rm hr) rfl T.g_Rule (passes_call (takes_of rfl rfl rfl rfl) fun _ _ _ _ h => h))))), ?_⟩)
  · obtain ⟨wd, r, rfl, _⟩ := h
    rfl
  · obtain ⟨wd, r, rfl, hw, h1, h2, k⟩ := h
    have S : Sh H (fun _ => False) H [] := Sh.start
    (purse 7012 => fail)
    rcases hw with rfl | rfl | rfl
    · refine g_eqS (r := false) (by decide) ?_
      (purse 7012 => fail)
      (purse 7016 => fail)
      (purse 7012 => fail)
      refine g_eqS (r := true) (by decide) ?_
      (purse 7012 => fail)
      (purse 7015 => fail)
      (purse 7012 => fail)
      exact ⟨rfl, fun x dx H' hn c e => k x dx H' hn c (by rw [rk_always]; exact e)⟩
    · refine g_eqS (r := false) (by decide) ?_
      (purse 7012 => fail)
      (purse 7016 => fail)
      (purse 7012 => fail)
      refine g_eqS (r := false) (by decide) ?_
      (purse 7012 => fail)
      (purse 7016 => fail)
      (purse 7012 => fail)
      exact ⟨rfl, fun x dx H' hn c e => k x dx H' hn c (by rw [rk_never]; exact e)⟩
    · refine g_eqS (r := true) (by decide) ?_
      (purse 7012 => fail)
      (purse 7015 => fail)
      (purse 7012 => fail)
      exact ⟨r, rfl, h1, h2, fun x dx H' hn c e => k x dx H' hn c (by rw [rk_seldom]; exact e)⟩
theorem ok_too {xs : List Str} {fdR : FuncData} (F : FnP K "_law_refused_too" "_law_refused_too" s_law_refused_too (ga K "_law_refused_too") fd) (T : TH K w mg) (FR : FnP K "_law_refused" "_law_refused" s_law_refused (ga K "_law_refused") fdR) (bR : Binds K fdR ["call"] [])
    (D : Mkr K mg base xs "_law_refused_too") (D_toldE : Dn P w K mg base 8 (ma K (ga K "Rule") "__call__") ["self", "file", "at"] (spToldE (ga K "Rule") (ga K "File") (ga K "NoMoment") (ga K "NoFile"))) :
    FnG P w K mg base (L2.CX P w) 12 (ga K "_law_refused_too") fd ["rule", "wrong"] (spToo K xs) := by
  refine FunD.okC F c_law_refused_too (fun vs H Q E h => ?_) (fun cdv A outer s H vs Q E hc hG hr h => ⟨_, pss_one (ps_ret (pe_act1 (k := 9) FR bR c_law_refused rfl (Or.inl rfl) (fun _ => act_refused (k := 4) (rm hr) hG T.toTRf) (rm hr) rfl T.g_law_refused (lamS_by (sc := defScope s_law_refused_too) (by decide +kernel)) (fun _ _ _ _ _ => rfl) (fun A1 o1 s1 H1 E1 f1 c1 hr => (pe_ci D_toldE T.ci (rm hr) (passes_call (takes_of rfl rfl rfl rfl) fun _ _ _ _ h => h) ((pv 0)) (pa_cons (pv 1) (pa_cons (pv 1) (pa_nil))))) (pe_lam1 D hc rfl rfl (fun I => I.ok) (lamS_by (sc := defScope s_law_refused_too) (by decide +kernel)) rfl))), ?_⟩)
  · obtain ⟨q, dq, k, v, d, z, rfl, _⟩ := h
    rfl
  · obtain ⟨q, dq, k, v, d, z, rfl, tb, hq, hp, hz, w⟩ := h
    (purse 7012 => fail)
    refine ⟨tb, fun lf lc H1 md => ?_⟩
    refine ⟨lf, lc, _, List.mem_singleton_self _, rfl, md.lam, md.code, ?_⟩
    intro p H2 E2 Q2 hn ch hl hw
    have e2 : ExtN H H2 := md.ext.trans ch.toN
    (purse 7012 => fail)
    have hq2 := e2 _ _ hq (fun _ z => nomatch z)
    refine g_kci ?_
    (purse 7012 => fail)
    refine ⟨⟨_, _, hq2⟩, .inr ⟨q, dq, k, v, v, d, rfl, hq2, hp.extN e2, fun dd H3 hn3 c3 hx3 => ?_⟩⟩
    have e3 : ExtN H H3 := e2.trans c3.toN
    refine hw _ _ _ ⟨_, dd, v, z, "file", rfl, rfl, hx3, hz.extN e3, .tail _ (.head _), fun p3 H4 hn4 c4 hl4 => ?_⟩
    exact w p3 H4 (AF.ExtN.old e3 hn4) (e3.trans (AF.Ch.toN c4)) (AF.Tabs.ch (AF.Tabs.ch (AF.Tabs.ch md.tabs ch) c3) c4) hl4
theorem eqb_eqv (k k' : RK) : PyData.eqv (.list [.str k.word, k.waitD]) (.list [.str k'.word, k'.waitD]) = k.eqb k' := by
  cases k with
  | seldom i =>
    cases k' with
    | seldom j =>
      show ((("seldom" : Str) == ("seldom" : Str)) && ((i == j) && true)) = decide (i = j)
      rw [show ((("seldom" : Str) == ("seldom" : Str))) = true from beq_self_eq_true _, Bool.true_and, Bool.and_true]
      by_cases h : i = j
      · rw [decide_eq_true h, h]; exact beq_self_eq_true j
      · rw [decide_eq_false h]; exact beq_eq_false_iff_ne.mpr h
    | always => show ((("seldom" : Str) == ("always" : Str)) && (PyData.eqv (.int i) .none && true)) = false; rw [show ((("seldom" : Str) == ("always" : Str))) = false by decide +kernel, Bool.false_and]
    | never => show ((("seldom" : Str) == ("never" : Str)) && (PyData.eqv (.int i) .none && true)) = false; rw [show ((("seldom" : Str) == ("never" : Str))) = false by decide +kernel, Bool.false_and]
  | always => cases k' with
    | seldom j => show ((("always" : Str) == ("seldom" : Str)) && (PyData.eqv .none (.int j) && true)) = false; rw [show ((("always" : Str) == ("seldom" : Str))) = false by decide +kernel, Bool.false_and]
    | _ => decide +kernel
  | never => cases k' with
    | seldom j => show ((("never" : Str) == ("seldom" : Str)) && (PyData.eqv .none (.int j) && true)) = false; rw [show ((("never" : Str) == ("seldom" : Str))) = false by decide +kernel, Bool.false_and]
    | _ => decide +kernel
theorem shaped_k (k : RK) : SeqAt.shaped (.list [.str k.word, k.waitD]) = true := by
  cases k with
  | seldom n => kernel_rfl
  | _ => decide +kernel
theorem dp_wait {H : Hp} (k : RK) : Dp K H k.wait k.waitD := by
  cases k with
  | seldom n => exact .int n
  | _ => exact .non
theorem ok_lequal (F : FnP K "_law_equal" "_law_equal" s_law_equal f fd) (T : TH K w mg) (D_law_draw : Dn P w K mg base 2 (ga K "_law_draw") ["source", "amount"] spDraw) (D_law_pick : Dn P w K mg base 4 (ga K "_law_pick") ["source", "items"] spPick)
    (D_law_rule : Dn P w K mg base 7 (ga K "_law_rule") ["kind", "after"] (spLRule (ga K "Rule"))) (D_req : Dn P w K mg base 4 (ma K (ga K "Rule") "__eq__") ["self", "other"] (spREq (ga K "Rule"))) (D_reqS : Dn P w K mg base 4 (ma K (ga K "Rule") "__eq__") ["self", "other"] (spREqS (ga K "Rule")))
    (R_word : Rn P w K mg base 2 (ga K "Rule") "word" (spWord (ga K "Rule"))) (R_after : Rn P w K mg base 2 (ga K "Rule") "after" (spWait (ga K "Rule"))) : FnOk P w K mg base (L2.CX P w) 9 f fd ["source", "rule", "after", "kind"] (spLEq (ga K "Rule")) := by
  refine F.ok c_law_equal (fun vs H Q E h => ?_) (fun cdv A outer s H vs Q E hr h => ⟨_, pss_cons (ps_set (i := 4) c_law_equal.nd rfl (Or.inl rfl) (pe_dn D_law_rule (rm hr) rfl T.g_law_rule (passes_call (takes_of rfl rfl rfl rfl) fun _ _ _ _ h => h) (pa_cons (pe_dn D_law_pick (rm hr) rfl T.g_law_pick (passes_call (takes_of rfl rfl rfl rfl) fun _ _ _ _ h => h) (pa_cons (pv 0) (pa_cons (pe_lst (pa_cons (pe_str) (pa_cons (pe_str) (pa_cons (pe_str) (pa_nil))))) (pa_nil)))) (pa_cons (pe_ix ix_list (pe_lst (pa_cons (pv 2) (pa_cons (pe_op op_add (pe_op op_mod (pv 2) (pe_int)) (pe_int)) (pa_nil)))) (pe_dn D_law_draw (rm hr) rfl T.g_law_draw (passes_call (takes_of rfl rfl rfl rfl) fun _ _ _ _ h => h) (pa_cons (pv 0) (pa_cons (pe_int) (pa_nil)))) (fun _ _ => rfl)) (pa_nil)))))
      (pss_cons (ps_if (pt_cmpR op_ne (pe_cmpR (cmp_eq D_req T.ceR (rm hr) (passes_call (takes_of rfl rfl rfl rfl) fun _ _ _ _ h => h)) (pv 1) (pv 4) (nomark _)) (pe_cmpR (op_eqD hr.units) (pe_lst (pa_cons (pe_pr R_word (rm hr) (pv 1)) (pa_cons (pe_pr R_after (rm hr) (pv 1)) (pa_nil)))) (pe_lst (pa_cons (pe_pr R_word (rm hr) (pv 4)) (pa_cons (pe_pr R_after (rm hr) (pv 4)) (pa_nil)))) (nomark _)) (nomark _))
      (pss_one (ps_ret (pe_bl)))
      (pss_nil))
      (pss_cons (ps_if (pt_cmpR (cmp_eq D_reqS T.ceR (rm hr) (passes_call (takes_of rfl rfl rfl rfl) fun _ _ _ _ h => h)) (pv 1) (pv 3) (nomark _))
      (pss_one (ps_ret (pe_bl)))
      (pss_nil))
      (pss_one (ps_ret (pe_bl))))), ?_⟩)
  · obtain ⟨a, q, dq, n, s, r, w, rfl, _⟩ := h
    rfl
  · obtain ⟨a, q, dq, n, s, r, w, rfl, ha, hs, hq, hw, h1, h2, k⟩ := h
    have S0 : Sh H (fun b => b = a) H [(a, .lst [.int n, .int s], true)] := Sh.start.take ha rfl (fun _ h => nomatch h)
    have S : Sh H (fun b => b = a) H [(q, .ins (ga K "Rule") dq (rk w r).fs, false), (a, .lst [.int n, .int s], true)] := S0.know hq (fun e he _ => by simp only [List.mem_cons, List.not_mem_nil, or_false] at he; subst he; exact ne_obj hq ha RK.fs_lst)
    clear S0
    (purse 7012 => fail)
    refine use_pick (by assumption) (fun _ _ => by (purse 7005 => fail)) (by assumption) (by (purse 7004 => fail)) (by exact Nat.le_of_ble_eq_true rfl) (by exact Nat.le_of_ble_eq_true rfl) (ne_obj (Sh.has_ (by assumption) (by (purse 7004 => fail))) (Sh.has_ (by assumption) (by (purse 7004 => fail))) (by simp)) ?_
    intro v n1 s1 H2 hv hs1 S2
    obtain ⟨wd, rfl, hwd⟩ := wd_of hv
    have t1 := T.ceR
    have t2 := T.nfR
    have t3 := T.nfS
    (purse 7012 => fail)
    refine g_ixI 1 2000 (by (purse 7003 => fail)) (by omega) (by (purse 7020 => fail)) (by (purse 7019 => fail)) ?_
    intro r2 _ _
    (purse 7012 => fail)
    refine use_lrule (by assumption) hwd (by assumption) (by assumption) ?_
    intro q2 dq2 H3 S3
    (purse 7012 => fail)
    refine ⟨q, dq, q2, dq2, _, _, rfl, by (purse 7003 => fail), by (purse 7003 => fail), ?_⟩
    (purse 7012 => fail)
    refine ⟨q, dq, _, rfl, by (purse 7003 => fail), ?_⟩
    (purse 7012 => fail)
    refine ⟨q, dq, _, rfl, by (purse 7003 => fail), ?_⟩
    (purse 7012 => fail)
    refine ⟨q2, dq2, _, rfl, by (purse 7003 => fail), ?_⟩
    (purse 7012 => fail)
    refine ⟨q2, dq2, _, rfl, by (purse 7003 => fail), ?_⟩
    (purse 7012 => fail)
    refine g_eqD2 (d := .list [.str (rk w r).word, (rk w r).waitD]) (e := .list [.str (rk wd r2).word, (rk wd r2).waitD]) (dp_lst (by (purse 7003 => fail)) (.cons (.str _) (.cons (dp_wait _) .nil))) (dp_lst (by (purse 7003 => fail)) (.cons (.str _) (.cons (dp_wait _) .nil))) (shaped_k _) (shaped_k _) (eqb_eqv _ _) ?_
    (purse 7012 => fail)
    refine g_no (by simp) ?_
    (purse 7012 => fail)
    refine ⟨q, dq, _, w, rfl, by (purse 7003 => fail), ?_⟩
    (purse 7012 => fail)
    (purse 7016 => fail)
    (purse 7012 => fail)
    exact k _ _ _ (by (purse 7006 => fail)) (by (purse 7003 => fail)) (by assumption)
end

end K1
namespace K1
open PySem PySem.Spec PyProof.Rows L2 AF LamX
open C8 (pe_gc)
local macro_rules | `(tactic| purse 7003 => fail) => `(tactic| k_dflt (refine Sh.has_ (by assumption) ?_; repeat (first | exact On.here | apply On.next)))
local macro_rules | `(tactic| purse 7004 => fail) => `(tactic| k_dflt (repeat (first | exact On.here | apply On.next)))
local macro_rules | `(tactic| purse 7005 => fail) => `(tactic| (repeat (first | exact Rep.here | apply Rep.next)))
local macro_rules | `(tactic| purse 7006 => fail) => `(tactic| (exact Sh.out (by assumption) (fun b h => by simp [h])))
local macro_rules | `(tactic| purse 7007 => fail) => `(tactic| k_dflt (first | ((with_reducible refine cdivw ?_ ?_) <;> omega) | ((with_reducible show CDiv _ _); constructor <;> omega) | ((with_reducible show CMul _ _); (first | (left; constructor <;> omega) | (right; constructor <;> omega))) | (show (0 : Int) < _; omega)))
local macro_rules | `(tactic| purse 7008 => fail) => `(tactic| first | exact Kd.int _ | exact Kd.bl _ | exact Kd.non | exact Kd.str _ | exact Kd.ins (by (purse 7003 => fail)) | exact Kd.lst (by (purse 7003 => fail)) | exact Kd.tup (by (purse 7003 => fail)))
local macro_rules | `(tactic| purse 7009 => fail) => `(tactic| first | exact DpAll.nil | (apply DpAll.cons; (purse 7010 => fail); (purse 7009 => fail)))
local macro_rules | `(tactic| purse 7010 => fail) => `(tactic| first | exact Dp.int _ | exact Dp.bl _ | exact Dp.non | exact Dp.str _ | (refine dp_int ?_; omega) | (refine dp_bl ?_; simp only [decide_eq_decide]; omega) | (apply dp_lst; (purse 7003 => fail); (purse 7009 => fail)) | (apply dp_tup; (purse 7003 => fail); (purse 7009 => fail)))
local macro_rules | `(tactic| purse 7011 => fail) => `(tactic| first | assumption | omega)
local macro_rules | `(tactic| purse 7001 => fail) => `(tactic| fail "no use")
local macro_rules | `(tactic| purse 7002 => fail) => `(tactic| first
  | (with_reducible refine set_go ?_)
  | (with_reducible refine Step.go ?_)
  | (with_reducible first | refine g_pow10_6 ?_ | refine g_pow10_7 ?_ | refine g_pow10_18 ?_ | refine g_pow10_29 ?_ | refine g_pow10_30 ?_)
  | ((with_reducible refine' g_I ?a0 ?_); (case a0 => (purse 7007 => fail)))
  | ((with_reducible refine' g_ixL ?a0 ?a1 ?_); (case a0 => (purse 7003 => fail)); (case a1 => k_dflt (exact rfl)))
  | ((with_reducible refine' g_kfld ?a0 ?a1 ?a2 ?a3 ?_); (case a0 => (purse 7003 => fail)); (case a1 => k_dflt (assumption)); (case a2 => k_dflt (assumption)); (case a3 => k_dflt (exact rfl)))
  | ((with_reducible refine' g_kprop ?a0 ?_); (case a0 => (purse 7003 => fail)))
  | ((with_reducible refine' g_kmeth ?a0 ?a1 ?_); (case a0 => (purse 7003 => fail)); (case a1 => k_dflt (exact rfl)))
  | ((with_reducible refine' g_own ?a0 ?a1 ?a2 ?_); (case a0 => (purse 7003 => fail)); (case a1 => (purse 7008 => fail)); (case a2 => k_dflt (assumption)))
  | ((with_reducible refine' g_cmp ?a0 ?a1 ?a2 ?_); (case a0 => (purse 7003 => fail)); (case a1 => (purse 7008 => fail)); (case a2 => k_dflt (assumption)))
  | ((with_reducible refine' g_neq ?a0 ?a1 ?a2 ?_); (case a0 => (purse 7003 => fail)); (case a1 => (purse 7008 => fail)); (case a2 => k_dflt (assumption)))
  | ((with_reducible refine' g_right ?a0 ?_); (case a0 => (purse 7003 => fail)))
  | ((with_reducible refine' use_draw ?a0 ?a1 ?a2 ?a3 ?a4 ?_); (case a0 => assumption); (case a1 => intro _ _; (purse 7005 => fail)); (case a2 => assumption); (case a3 => (purse 7011 => fail)); (case a4 => (purse 7011 => fail)); intro _ _ _ _ _ _ _ _)
  | ((with_reducible refine' use_giveI ?a0 ?a1 ?a2 ?_); (case a0 => assumption); (case a1 => intro _ _; (purse 7005 => fail)); (case a2 => assumption); intro _ _ _ _ _ _ _ _)
  | ((with_reducible refine' use_source ?a0 ?a1 ?_); (case a0 => assumption); (case a1 => k_dflt (assumption)); intro _ _ _ _ _ _)
  | (with_reducible refine g_absN ?_; intro _ _)
  | (with_reducible refine g_maxN ?_; intro _ _ _ _)
  | (with_reducible refine g_minN ?_; intro _ _ _ _)
  | ((with_reducible refine' g_kR1 ?a0 ?a1 ?_); (case a0 => omega); (case a1 => omega))
  | ((with_reducible refine' g_neD ?a0 ?a1 ?a2 ?_); (case a0 => (purse 7010 => fail)); (case a1 => (purse 7010 => fail)); (case a2 => k_dflt (rfl)))
  | ((with_reducible refine' g_eqD ?a0 ?a1 ?a2 ?_); (case a0 => (purse 7010 => fail)); (case a1 => (purse 7010 => fail)); (case a2 => k_dflt (rfl)))
  | ((with_reducible refine' g_klst ?a0 ?a1 ?_); (case a0 => assumption); (case a1 => k_dflt (exact rfl)); intro _ _ _ _)
  | ((with_reducible refine' g_ktup ?a0 ?a1 ?_); (case a0 => assumption); (case a1 => k_dflt (exact rfl)); intro _ _ _ _)
  | ((with_reducible refine' g_setL ?a0 ?a1 ?a2 ?_); (case a0 => assumption); (case a1 => (purse 7005 => fail)); (case a2 => k_dflt (exact rfl)); intro _ _)
  | ((with_reducible refine' g_unl3 ?a0 ?_); (case a0 => (purse 7003 => fail)))
  | (purse 7001 => fail))
local macro_rules | `(tactic| purse 7012 => fail) => `(tactic| ((try (with_reducible refine start_go ?_)); repeat (purse 7002 => fail)))
local macro_rules | `(tactic| purse 7013 => fail) => `(tactic| first | rfl | (refine decide_eq_true ?_; omega) | (simp only [Bool.not_eq_true', Bool.not_eq_false', decide_eq_false_iff_not, decide_eq_true_eq, Bool.not_not, decide_eq_decide]; done) | (simp only [Bool.not_eq_true', Bool.not_eq_false', decide_eq_false_iff_not, decide_eq_true_eq, Bool.not_not, decide_eq_decide]; omega))
local macro_rules | `(tactic| purse 7014 => fail) => `(tactic| first | rfl | (refine decide_eq_false ?_; omega) | (simp only [Bool.not_eq_true', Bool.not_eq_false', decide_eq_false_iff_not, decide_eq_true_eq, Bool.not_not, decide_eq_decide]; done) | (simp only [Bool.not_eq_true', Bool.not_eq_false', decide_eq_false_iff_not, decide_eq_true_eq, Bool.not_not, decide_eq_decide]; omega))
local macro_rules | `(tactic| purse 7015 => fail) => `(tactic| ((refine g_yes ?h ?_); (case h => (purse 7013 => fail))))
local macro_rules | `(tactic| purse 7016 => fail) => `(tactic| ((refine g_no ?h ?_); (case h => (purse 7014 => fail))))
local macro_rules | `(tactic| purse 7017 => fail) => `(tactic| first | (purse 7015 => fail) | (purse 7016 => fail))
local macro_rules | `(tactic| purse 7018 => fail) => `(tactic| repeat ((purse 7012 => fail); (purse 7017 => fail)))
local macro_rules | `(tactic| purse 7019 => fail) => `(tactic| repeat (first | exact intIn_nil | refine intIn_cons (by omega) (by omega) ?_))
local macro_rules | `(tactic| purse 7020 => fail) => `(tactic| (simp only [List.length_cons, List.length_nil]; omega))
local macro_rules | `(tactic| purse 7021 => fail) => `(tactic| (refine g_two (fun c => ?_) (fun c => ?_) <;> first | (have c := of_decide_eq_true c) | (have c := of_decide_eq_false c) | skip))
local macro_rules | `(tactic| purse 7022 => fail) => `(tactic| ((purse 7018 => fail); (purse 7012 => fail); try ((purse 7021 => fail) <;> (purse 7022 => fail))))

/-! the law -/
open He in
structure TW (K : PySem.W.Frag) (w : World) (mg : Str → Option Value) : Prop extends TH K w mg where
  z_range : mg "range" = none
  z_max : mg "max" = none
  z_min : mg "min" = none
  g_law_equal : mg "_law_equal" = some (.ref (ga K "_law_equal"))
  g_law_refused_too : mg "_law_refused_too" = some (.ref (ga K "_law_refused_too"))
open He in
def spLaw (K : PySem.W.Frag) (xs : List Str) : Sp := fun vs H Q _ => ∃ (a : Addr) (ns : List Int), vs = [.ref a] ∧ SqF K H a (ns.map V.int) ∧ ns.length ≤ 63 ∧ Tabs (lamT K xs) H ∧ ∀ H', Q (.bl true) H'
/-- a rule called, the moment in either way -/
def spToldA (R C M : Addr) : Sp := fun vs H Q _ => ∃ (q dq a dx r d : Addr) (m x y z n : Int) (v : V) (h : Bool) (k : RK), vs = [.ref q, .ref a, v] ∧ At M H v n ∧ H q = some (.ins R dq k.fs) ∧ H a = some (.ins C dx (fl r d m h)) ∧ H d = some (.dK (mk3 x y z)) ∧ q ≠ a ∧
  -1000000000000000000000000000000 ≤ n ∧ n ≤ 1000000000000000000000000000000 ∧ ∀ H', Ch [] H H' → Q (.bl (k.told x y z n)) H'
section
open He
variable {P : Program} {w : World} {K : PySem.W.Frag} {mg : Str → Option Value} {base : Heap} {f : Addr} {fd : FuncData}
theorem ok_toldA (F : FnP K "__call__" "Rule.__call__" s_Rule___call__ f fd) (T : TF K w mg) (D_seconds_of : Dn P w K mg base 6 (ga K "seconds_of") ["value"] (spSecs (ga K "Moment"))) (H_marks : Hn P w K mg base 2 (ga K "File") "marks" (spMarks (ga K "File"))) :
    FnOk P w K mg base (L2.CX P w) 8 f fd ["self", "file", "at"] (spToldA (ga K "Rule") (ga K "File") (ga K "Moment")) := by
  refine F.ok c_Rule___call__ (fun vs H Q E h => ?_) (fun cdv A outer s H vs Q E hr h => ⟨_, pss_cons (ps_if (pt_not (pt_val (pe_callB call_isi (by rfl) T.z_isinstance (by decide +kernel) (pa_cons (pv 1) (pa_cons (pe_glob (v := .ref _) rfl T.g_AnyFile rfl) (pa_nil))))))
      (pss_one (ps_never))
      (pss_nil))
      (pss_cons (ps_set (i := 3) c_Rule___call__.nd rfl (Or.inl rfl) (pe_dn D_seconds_of (rm hr) rfl T.g_seconds_of (passes_call (takes_of rfl rfl rfl rfl) fun _ _ _ _ h => h) (pa_cons (pv 2) (pa_nil))))
      (pss_cons (ps_if (pt_cmpR op_ne (pe_fld (pv 0) rfl) (pe_str) (nomark _))
      (pss_one (ps_ret (pe_cmpR op_eq (pe_fld (pv 0) rfl) (pe_str) (nomark _))))
      (pss_nil))
      (pss_cons (ps_set (i := 4) c_Rule___call__.nd rfl (Or.inl rfl) (pe_dm0 H_marks (rm hr) (passes_call (takes_of rfl rfl rfl rfl) fun _ _ _ _ h => h) (pv 1)))
      (pss_cons (ps_set (i := 5) c_Rule___call__.nd rfl (Or.inl rfl) (pe_dget (hu_of hr) ((pv 4)) ((pe_str)) (fun _ _ => rfl)))
      (pss_one (ps_ret (pe_or (pe_cmpR op_le (pv 5) (pe_dget (hu_of hr) ((pv 4)) ((pe_str)) (fun _ _ => rfl)) (nomark _)) (pe_or (pe_cmpR op_le (pv 5) (pe_dget (hu_of hr) ((pv 4)) ((pe_str)) (fun _ _ => rfl)) (nomark _)) (pe_one (pe_cmpR op_ge (pe_op op_sub (pv 3) (pv 5)) (pe_fld (pv 0) rfl) (nomark _))))))))))), ?_⟩)
  · obtain ⟨q, dq, a, dx, r, d, m, x, y, z, n, v, h, k, rfl, _⟩ := h
    rfl
  · obtain ⟨q, dq, a, dx, r, d, m, x, y, z, n, v, b, k, rfl, hv, hq, ha, hd, hqa, h1, h2, w⟩ := h
    have S : Sh H (fun _ => False) H [(q, .ins (ga K "Rule") dq k.fs, false), (a, .ins (ga K "File") dx (fl r d m b), false), (d, .dK (mk3 x y z), false)] := know0 (know0 (know0 Sh.start hd rfl) ha rfl) hq rfl
    have t1 := T.rcl
    have t2 := T.nC
    have t3 := T.nW
    (purse 7012 => fail)
    refine g_isi (.own _) (.base (.ins ha T.ic.cl T.ic.ha T.ic.hn T.ic.htk T.ic.hm)) T.kF ?_
    (purse 7012 => fail)
    (purse 7016 => fail)
    (purse 7012 => fail)
    refine ⟨_, n, rfl, hv, h1, h2, ?_⟩
    (purse 7012 => fail)
    cases k with
    | always =>
      refine g_kfld (K := K) hq T.rcl T.nC rfl ?_
      (purse 7012 => fail)
      refine g_neS (r := false) (by decide) ?_
      (purse 7012 => fail)
      (purse 7015 => fail)
      (purse 7012 => fail)
      refine g_eqS (r := true) (by decide) ?_
      exact w H Ch.rfl'
    | never =>
      refine g_kfld (K := K) hq T.rcl T.nC rfl ?_
      (purse 7012 => fail)
      refine g_neS (r := false) (by decide) ?_
      (purse 7012 => fail)
      (purse 7015 => fail)
      (purse 7012 => fail)
      refine g_eqS (r := false) (by decide) ?_
      exact w H Ch.rfl'
    | seldom k =>
      refine g_kfld (K := K) hq T.rcl T.nC rfl ?_
      (purse 7012 => fail)
      refine g_neS (r := true) (by decide) ?_
      (purse 7012 => fail)
      (purse 7016 => fail)
      (purse 7012 => fail)
      refine use_marks S (by (purse 7004 => fail)) (by (purse 7004 => fail)) fun p H' hp S' => ?_
      (purse 7012 => fail)
      refine g_dg (v := .int x) (S'.has_ .here) rfl ?_
      (purse 7012 => fail)
      refine g_dg (v := .int y) (S'.has_ .here) rfl ?_
      (purse 7012 => fail)
      have w1 : Q (.bl (decide (x ≤ y) || (decide (x ≤ z) || decide (k ≤ n - x)))) H' := w H' (S'.out fun _ h => h.elim)
      by_cases c1 : x ≤ y
      · rw [decide_eq_true c1] at w1 ⊢
        exact w1
      · rw [decide_eq_false c1] at w1 ⊢
        (purse 7016 => fail)
        (purse 7012 => fail)
        refine g_dg (v := .int z) (S'.has_ .here) rfl ?_
        (purse 7012 => fail)
        by_cases c2 : x ≤ z
        · rw [decide_eq_true c2] at w1 ⊢
          exact w1
        · rw [decide_eq_false c2] at w1 ⊢
          (purse 7016 => fail)
          (purse 7012 => fail)
          exact w1
end
local macro_rules | `(tactic| purse 7001 => fail) => `(tactic| first
  | ((with_reducible refine' g_mkmo ?a0 ?a1 ?a2 ?_); (case a0 => assumption); (case a1 => (purse 7011 => fail)); (case a2 => (purse 7011 => fail)); intro _ _ _ _))
local macro_rules | `(tactic| purse 7023 => fail) => `(tactic| (repeat (first | exact List.Sublist.refl _ | apply List.Sublist.cons_cons | apply List.Sublist.cons)))
section
open He
variable {H0 H : Hp} {M : Addr → Prop} {l l1 : List Ent} {l2 : Int → Int → Int → List Ent} {R C MC a dx r dr d t : Addr} {k : RK} {xs : List V} {kvs : List (Key × V)} {v : V} {m n x y z : Int} {Q : VK} {E : XK}
theorem use_do (S : Sh H0 M H l) (ra : Rep l a (.ins C dx (fl r d m false)) (.ins C dx (fl r d n false)) l1) (or : On l r (.ins R dr k.fs)) (ot : On l t (.tup xs)) (od : On l d (.dK (mk3 x y z))) (hb : Bk xs kvs) (av : AtL MC l v n) (hm : m < n) (hn : Mo30 n)
    (rd : ∀ x' y' z', Rep l1 d (.dK (mk3 x y z)) (.dK (mk3 x' y' z')) (l2 x' y' z')) (q : ∀ p ps x' y' z' H', Af k x y z n xs ps x' y' z' → Sh H0 M H' ((p, .lst ps, true) :: l2 x' y' z') → Q (.ref p) H') : spDo R C MC [.ref a, .ref t, v] H Q E := by
  refine ⟨a, dx, r, dr, d, t, k, xs, kvs, v, m, n, x, y, z, false, rfl, av.at_ S, S.has _ ra.mem, S.has_ or, S.has_ od, S.has_ ot, hb, hn, hm, fun p ps x' y' z' H' hp c ha hd hl af => ?_⟩
  have e0 : heldBy xs false = false := by unfold heldBy; split <;> rfl
  rw [e0] at ha
  exact q p ps x' y' z' H' af (S.ch2n ra (rd x' y' z') c ha hd hp hl)
theorem mk_of {H0 H : Hp} {M : Addr → Prop} {l : List Ent} {t1 t2 p : Addr} {v : V} {n : Int} (S : Sh H0 M H ((p, .lst [.ref t1, .ref t2], true) :: (t2, .tup [.str "unpack", .int 5], true) :: (t1, .tup [.str "make"], true) :: l)) (hv : v ∈ ([.ref t1, .ref t2] : List V)) :
    ∃ t xs y, v = .ref t ∧ Mk3 n xs n y n ∧ n - 5 ≤ y ∧ y ≤ n ∧ Sh H0 M H ((t, .tup xs, true) :: l) := by
  simp only [List.mem_cons, List.not_mem_nil, or_false] at hv
  rcases hv with rfl | rfl
  · exact ⟨_, _, n, rfl, .make, by omega, by omega, S.cut (by (purse 7023 => fail))⟩
  · exact ⟨_, _, n - 5, rfl, .unpack (b := 5) (by decide) (by decide), by omega, by omega, S.cut (by (purse 7023 => fail))⟩
theorem dd_of {H0 H : Hp} {M : Addr → Prop} {l : List Ent} {t1 t2 t3 t4 t5 t6 p : Addr} {v : V} (S : Sh H0 M H ((p, .lst [.ref t1, .ref t2, .ref t3, .ref t4, .ref t5, .ref t6], true) :: (t6, .tup [.str "setback", .int 4], true) :: (t5, .tup [.str "touch"], true) :: (t4, .tup [.str "rename"], true) :: (t3, .tup [.str "write"], true) :: (t2, .tup [.str "read"], true) :: (t1, .tup [.str "read"], true) :: l))
    (hv : v ∈ ([.ref t1, .ref t2, .ref t3, .ref t4, .ref t5, .ref t6] : List V)) : ∃ t xs kvs, v = .ref t ∧ Bk xs kvs ∧ Sh H0 M H ((t, .tup xs, true) :: l) := by
  simp only [List.mem_cons, List.not_mem_nil, or_false] at hv
  rcases hv with rfl | rfl | rfl | rfl | rfl | rfl
  · exact ⟨_, _, _, rfl, .read, S.cut (by (purse 7023 => fail))⟩
  · exact ⟨_, _, _, rfl, .read, S.cut (by (purse 7023 => fail))⟩
  · exact ⟨_, _, _, rfl, .write, S.cut (by (purse 7023 => fail))⟩
  · exact ⟨_, _, _, rfl, .rename, S.cut (by (purse 7023 => fail))⟩
  · exact ⟨_, _, _, rfl, .touch, S.cut (by (purse 7023 => fail))⟩
  · exact ⟨_, _, _, rfl, .setback (b := 4) (by decide) (by decide), S.cut (by (purse 7023 => fail))⟩
end
local macro_rules | `(tactic| purse 7024 => fail) => `(tactic| first | exact PvAll.nil | (refine PvAll.cons ?_ ?_; (focus (purse 7025 => fail)); (purse 7024 => fail)))
local macro_rules | `(tactic| purse 7025 => fail) => `(tactic| first | exact Pv.non | exact Pv.bl _ | exact Pv.int _ | exact Pv.str _ | (apply Pv.d0; (purse 7003 => fail); done) | (apply Pv.lst; (purse 7003 => fail); (purse 7024 => fail); done) | (apply Pv.tup; (purse 7003 => fail); (purse 7024 => fail); done))
theorem odd_key {H0 H : Hp} {M : Addr → Prop} {l : List Ent} {p1 p2 p3 : Addr} {v : V} (S : Sh H0 M H ((p3, HO.lst [.int 0, .int (-1), .int 2001, .non, .bl true, .str "1", .ref p1, .ref p2, .int 100000000000000000000], true) :: (p2, HO.tup [.int 1], true) :: (p1, HO.lst [.int 1], true) :: l)) (hv : v ∈ ([.int 0, .int (-1), .int 2001, .non, .bl true, .str "1", .ref p1, .ref p2, .int 100000000000000000000] : List V)) :
    ∃ d, Pv H v d ∧ ruleB d = false ∧ showB d = true ∧ PyData.canLay0 (.str d.shown) = true := by
  simp only [List.mem_cons, List.not_mem_nil, or_false] at hv
  rcases hv with rfl | rfl | rfl | rfl | rfl | rfl | rfl | rfl | rfl
  · exact ⟨.int 0, by (purse 7025 => fail), by decide +kernel, by decide +kernel, by decide +kernel⟩
  · exact ⟨.int (-1), by (purse 7025 => fail), by decide +kernel, by decide +kernel, by decide +kernel⟩
  · exact ⟨.int 2001, by (purse 7025 => fail), by decide +kernel, by decide +kernel, by decide +kernel⟩
  · exact ⟨.none, by (purse 7025 => fail), by decide +kernel, by decide +kernel, by decide +kernel⟩
  · exact ⟨.bool true, by (purse 7025 => fail), by decide +kernel, by decide +kernel, by decide +kernel⟩
  · exact ⟨.str "1", by (purse 7025 => fail), by decide +kernel, by decide +kernel, by decide +kernel⟩
  · exact ⟨.list [.int 1], by (purse 7025 => fail), by decide +kernel, by decide +kernel, by decide +kernel⟩
  · exact ⟨.tuple [.int 1], by (purse 7025 => fail), by decide +kernel, by decide +kernel, by decide +kernel⟩
  · exact ⟨.int 100000000000000000000, by (purse 7025 => fail), by decide +kernel, by decide +kernel, by decide +kernel⟩
theorem shaped3 {k z : Str} {b : Bool} (hk : PyData.canLay0 (.str k) = true) (h : PyData.canLay0 (.str z) = true) : SeqAt.shaped (.list [.str k, .str z, .bool b]) = true := by
  have e1 : PyData.canLay0 (.list [.str k, .str z, .bool b]) = true := by
    show (PyData.canLay0 (.str k) && (PyData.canLay0 (.str z) && (true && true))) = true
    rw [hk, h]; rfl
  show (PyData.canLay0 _ && decide (PyData.depth (.list [.str k, .str z, .bool b]) ≤ 64)) = true
  rw [e1, Bool.true_and]
  refine decide_eq_true ?_
  simp [PyData.depth, PyData.depthAll]
theorem shaped32 {k k2 z : Str} {b : Bool} (hk : PyData.canLay0 (.str k) = true) (hk2 : PyData.canLay0 (.str k2) = true) (h : PyData.canLay0 (.str z) = true) : SeqAt.shaped (.list [.list [.str k, .str z, .bool b], .list [.str k2, .str z, .bool b]]) = true := by
  have e1 : PyData.canLay0 (.list [.list [.str k, .str z, .bool b], .list [.str k2, .str z, .bool b]]) = true := by
    show ((PyData.canLay0 (.str k) && (PyData.canLay0 (.str z) && (true && true))) && ((PyData.canLay0 (.str k2) && (PyData.canLay0 (.str z) && (true && true))) && true)) = true
    rw [hk, hk2, h]; rfl
  show (PyData.canLay0 _ && decide (PyData.depth (.list [.list [.str k, .str z, .bool b], .list [.str k2, .str z, .bool b]]) ≤ 64)) = true
  rw [e1, Bool.true_and]
  refine decide_eq_true ?_
  simp [PyData.depth, PyData.depthAll]
theorem wrong_key {H0 H : Hp} {M : Addr → Prop} {l : List Ent} {p1 p2 p3 p4 : Addr} {v : V} (S : Sh H0 M H ((p4, HO.lst [.non, .bl true, .str "1", .ref p1, .ref p2, .int (1000000000000000000000000000000 + 1), .ref p3], true) :: (p3, HO.dK [], true) :: (p2, HO.tup [.int 1], true) :: (p1, HO.lst [.int 1], true) :: l)) (hv : v ∈ ([.non, .bl true, .str "1", .ref p1, .ref p2, .int (1000000000000000000000000000000 + 1), .ref p3] : List V)) :
    ∃ d, Pv H v d ∧ momB d = false ∧ showB d = true ∧ PyData.canLay0 (.str d.shown) = true := by
  simp only [List.mem_cons, List.not_mem_nil, or_false] at hv
  rcases hv with rfl | rfl | rfl | rfl | rfl | rfl | rfl
  · exact ⟨.none, by (purse 7025 => fail), by decide +kernel, by decide +kernel, by decide +kernel⟩
  · exact ⟨.bool true, by (purse 7025 => fail), by decide +kernel, by decide +kernel, by decide +kernel⟩
  · exact ⟨.str "1", by (purse 7025 => fail), by decide +kernel, by decide +kernel, by decide +kernel⟩
  · exact ⟨.list [.int 1], by (purse 7025 => fail), by decide +kernel, by decide +kernel, by decide +kernel⟩
  · exact ⟨.tuple [.int 1], by (purse 7025 => fail), by decide +kernel, by decide +kernel, by decide +kernel⟩
  · exact ⟨.int 1000000000000000000000000000001, by (purse 7025 => fail), by decide +kernel, by decide +kernel, by decide +kernel⟩
  · exact ⟨.dict [], by (purse 7025 => fail), by decide +kernel, by decide +kernel, by decide +kernel⟩
theorem rk_word {w : Str} {r : Int} (h : Wd w) : (rk w r).word = w := by
  rcases h with rfl | rfl | rfl
  · rw [rk_always]; rfl
  · rw [rk_never]; rfl
  · rw [rk_seldom]; rfl
section
open He
variable {P : Program} {w : World} {K : PySem.W.Frag} {mg : Str → Option Value} {base : Heap} {f : Addr} {fd : FuncData}
theorem ok_law {xs : List Str} {fdR : FuncData} (F : FnP K "law" "law" s_law (ga K "law") fd) (T : TW K w mg) (FR : FnP K "_law_refused" "_law_refused" s_law_refused (ga K "_law_refused") fdR) (bR : Binds K fdR ["call"] []) (DL : Mkr K mg base xs "law")
    (D_law_draw : Dn P w K mg base 2 (ga K "_law_draw") ["source", "amount"] spDraw) (D_law_source : Dn P w K mg base 2 (ga K "_law_source") ["script", "turn"] (spSource K)) (D_law_pick : Dn P w K mg base 4 (ga K "_law_pick") ["source", "items"] spPick)
    (D_law_rule : Dn P w K mg base 7 (ga K "_law_rule") ["kind", "after"] (spLRule (ga K "Rule"))) (D_law_equal : Dn P w K mg base 9 (ga K "_law_equal") ["source", "rule", "after", "kind"] (spLEq (ga K "Rule"))) (D_too : DnG P w K mg base 12 (ga K "_law_refused_too") ["rule", "wrong"] (spToo K xs))
    (R_word : Rn P w K mg base 2 (ga K "Rule") "word" (spWord (ga K "Rule"))) (R_after : Rn P w K mg base 2 (ga K "Rule") "after" (spWait (ga K "Rule")))
    (M_File : Mn P w K mg base 10 (ga K "File") ["self", "rule", "deed", "at"] (spFInit (ga K "Rule") (ga K "File") (ga K "Moment"))) (M_Moment : Mn P w K mg base 6 (ga K "Moment") ["self", "seconds"] (spInit (ga K "Moment")))
    (H_marks : Hn P w K mg base 2 (ga K "File") "marks" (spMarks (ga K "File"))) (H_do : Hn P w K mg base 12 (ga K "File") "do" (spDo (ga K "Rule") (ga K "File") (ga K "Moment")))
    (D_toldA : Dn P w K mg base 8 (ma K (ga K "Rule") "__call__") ["self", "file", "at"] (spToldA (ga K "Rule") (ga K "File") (ga K "Moment"))) (D_toldE : Dn P w K mg base 8 (ma K (ga K "Rule") "__call__") ["self", "file", "at"] (spToldE (ga K "Rule") (ga K "File") (ga K "NoMoment") (ga K "NoFile")))
    (D_seldomE : Dn P w K mg base 6 (He5.wf K (ga K "Rule") "staticmethod" "seldom") ["after"] (spSeldomE (ga K "NoRule"))) :
    FnG P w K mg base (L2.CX P w) 16 (ga K "law") fd ["script"] (spLaw K xs) := by
  refine FunD.okC F c_law (fun vs H Q E h => ?_) (fun cdv A outer s H vs Q E hc hG hr h => ⟨_, pss_cons (ps_for (passes_of rfl) rfl (pi_range1 rfl T.z_range (pa_cons (pe_callB (cl_max rfl) (by rfl) T.z_max (by decide +kernel) (pa_cons (pe_int) (pa_cons (pe_callB (cl_min rfl) (by rfl) T.z_min (by decide +kernel) (pa_cons (pe_callB cl_len (by rfl) T.z_len (by decide +kernel) (pa_cons (pv 0) (pa_nil))) (pa_cons (pe_int) (pa_nil)))) (pa_nil)))) (pa_nil))) (pg_name (i := 1) c_law.nd rfl (Or.inl rfl))
      (pss_cons (ps_set (i := 2) c_law.nd rfl (Or.inl rfl) (pe_dn D_law_source (rm hr) rfl T.g_law_source (passes_call (takes_of rfl rfl rfl rfl) fun _ _ _ _ h => h) (pa_cons (pv 0) (pa_cons (pv 1) (pa_nil)))))
      (pss_cons (ps_set (i := 3) c_law.nd rfl (Or.inl rfl) (pe_dn D_law_pick (rm hr) rfl T.g_law_pick (passes_call (takes_of rfl rfl rfl rfl) fun _ _ _ _ h => h) (pa_cons (pv 2) (pa_cons (pe_lst (pa_cons (pe_str) (pa_cons (pe_str) (pa_cons (pe_str) (pa_nil))))) (pa_nil)))))
      (pss_cons (ps_set (i := 4) c_law.nd rfl (Or.inl rfl) (pe_op op_add (pe_int) (pe_dn D_law_draw (rm hr) rfl T.g_law_draw (passes_call (takes_of rfl rfl rfl rfl) fun _ _ _ _ h => h) (pa_cons (pv 2) (pa_cons (pe_ix ix_list (pe_lst (pa_cons (pe_int) (pa_cons (pe_int) (pa_nil)))) (pe_dn D_law_draw (rm hr) rfl T.g_law_draw (passes_call (takes_of rfl rfl rfl rfl) fun _ _ _ _ h => h) (pa_cons (pv 2) (pa_cons (pe_int) (pa_nil)))) (fun _ _ => rfl)) (pa_nil))))))
      (pss_cons (ps_set (i := 14) c_law.nd rfl (Or.inr rfl) (pe_dn D_law_rule (rm hr) rfl T.g_law_rule (passes_call (takes_of rfl rfl rfl rfl) fun _ _ _ _ h => h) (pa_cons (pv 3) (pa_cons (pv 4) (pa_nil)))))
      (pss_cons (ps_if (pt_cmpR (op_neD hr.units) (pe_lst (pa_cons (pe_pr R_word (rm hr) (pv 14)) (pa_cons (pe_pr R_after (rm hr) (pv 14)) (pa_nil)))) (pe_lst (pa_cons (pv 3) (pa_cons (pe_ifExp (pt_cmpR op_eq (pv 3) (pe_str) (nomark _)) (pv 4) (pe_non)) (pa_nil)))) (nomark _))
      (pss_one (ps_ret (pe_bl)))
      (pss_nil))
      (pss_cons (ps_set (i := 5) c_law.nd rfl (Or.inl rfl) (pe_op op_sub (pe_dn D_law_draw (rm hr) rfl T.g_law_draw (passes_call (takes_of rfl rfl rfl rfl) fun _ _ _ _ h => h) (pa_cons (pv 2) (pa_cons (pe_int) (pa_nil)))) (pe_int)))
      (pss_cons (ps_set (i := 12) c_law.nd rfl (Or.inr rfl) (pe_mn M_File (rm hr) rfl T.g_File (passes_call (takes_of rfl rfl rfl rfl) fun _ _ _ _ h => h) (pa_cons (pe_dn D_law_rule (rm hr) rfl T.g_law_rule (passes_call (takes_of rfl rfl rfl rfl) fun _ _ _ _ h => h) (pa_cons (pe_str) (pa_cons (pe_int) (pa_nil)))) (pa_cons (pe_dn D_law_pick (rm hr) rfl T.g_law_pick (passes_call (takes_of rfl rfl rfl rfl) fun _ _ _ _ h => h) (pa_cons (pv 2) (pa_cons (pe_lst (pa_cons (pe_tup (pa_cons (pe_str) (pa_nil))) (pa_cons (pe_tup (pa_cons (pe_str) (pa_cons (pe_int) (pa_nil)))) (pa_nil)))) (pa_nil)))) (pa_cons (pv 5) (pa_nil))))))
      (pss_cons (ps_set (i := 6) c_law.nd rfl (Or.inl rfl) (pe_op op_add (pe_op op_add (pv 5) (pe_int)) (pe_dn D_law_draw (rm hr) rfl T.g_law_draw (passes_call (takes_of rfl rfl rfl rfl) fun _ _ _ _ h => h) (pa_cons (pv 2) (pa_cons (pe_int) (pa_nil))))))
      (pss_cons (ps_expr (pe_dm H_do (rm hr) (passes_call (takes_of rfl rfl rfl rfl) fun _ _ _ _ h => h) (pv 12) (pa_cons (pe_dn D_law_pick (rm hr) rfl T.g_law_pick (passes_call (takes_of rfl rfl rfl rfl) fun _ _ _ _ h => h) (pa_cons (pv 2) (pa_cons (pe_lst (pa_cons (pe_tup (pa_cons (pe_str) (pa_nil))) (pa_cons (pe_tup (pa_cons (pe_str) (pa_nil))) (pa_cons (pe_tup (pa_cons (pe_str) (pa_nil))) (pa_cons (pe_tup (pa_cons (pe_str) (pa_nil))) (pa_cons (pe_tup (pa_cons (pe_str) (pa_nil))) (pa_cons (pe_tup (pa_cons (pe_str) (pa_cons (pe_int) (pa_nil)))) (pa_nil)))))))) (pa_nil)))) (pa_cons (pv 6) (pa_nil)))))
      (pss_cons (ps_set (i := 7) c_law.nd rfl (Or.inl rfl) (pe_op op_add (pv 6) (pe_ix ix_list (pe_lst (pa_cons (pv 4) (pa_cons (pe_op op_sub (pv 4) (pe_int)) (pa_cons (pe_op op_add (pv 4) (pe_int)) (pa_cons (pe_dn D_law_draw (rm hr) rfl T.g_law_draw (passes_call (takes_of rfl rfl rfl rfl) fun _ _ _ _ h => h) (pa_cons (pv 2) (pa_cons (pe_int) (pa_nil)))) (pa_nil)))))) (pe_dn D_law_draw (rm hr) rfl T.g_law_draw (passes_call (takes_of rfl rfl rfl rfl) fun _ _ _ _ h => h) (pa_cons (pv 2) (pa_cons (pe_int) (pa_nil)))) (fun _ _ => rfl))))
      (pss_cons (ps_set (i := 8) c_law.nd rfl (Or.inl rfl) (pe_callTy cl_dictD (by rfl) T.z_dict (by decide +kernel) (pa_cons (pe_dm0 H_marks (rm hr) (passes_call (takes_of rfl rfl rfl rfl) fun _ _ _ _ h => h) (pv 12)) (pa_nil))))
      (pss_cons (ps_set (i := 9) c_law.nd rfl (Or.inl rfl) (pe_or (pe_cmpR op_le (pe_dget (hu_of hr) ((pv 8)) ((pe_str)) (fun _ _ => rfl)) (pe_dget (hu_of hr) ((pv 8)) ((pe_str)) (fun _ _ => rfl)) (nomark _)) (pe_or (pe_cmpR op_le (pe_dget (hu_of hr) ((pv 8)) ((pe_str)) (fun _ _ => rfl)) (pe_dget (hu_of hr) ((pv 8)) ((pe_str)) (fun _ _ => rfl)) (nomark _)) (pe_one (pe_cmpR op_ge (pe_op op_sub (pv 7) (pe_dget (hu_of hr) ((pv 8)) ((pe_str)) (fun _ _ => rfl))) (pv 4) (nomark _))))))
      (pss_cons (ps_if (pt_cmpR op_ne (pv 3) (pe_str) (nomark _))
      (pss_one (ps_set (i := 9) c_law.nd rfl (Or.inl rfl) (pe_cmpR op_eq (pv 3) (pe_str) (nomark _))))
      (pss_nil))
      (pss_cons (ps_set (i := 10) c_law.nd rfl (Or.inl rfl) (pe_lst (pa_cons (pe_ci D_toldA T.ci (rm hr) (passes_call (takes_of rfl rfl rfl rfl) fun _ _ _ _ h => h) ((pv 14)) (pa_cons (pv 12) (pa_cons (pv 7) (pa_nil)))) (pa_cons (pe_ci D_toldA T.ci (rm hr) (passes_call (takes_of rfl rfl rfl rfl) fun _ _ _ _ h => h) ((pv 14)) (pa_cons (pv 12) (pa_cons (pe_mn M_Moment (rm hr) rfl T.g_Moment (passes_call (takes_of rfl rfl rfl rfl) fun _ _ _ _ h => h) (pa_cons (pv 7) (pa_nil))) (pa_nil)))) (pa_nil)))))
      (pss_cons (ps_if (PW.pt (pw_or (pt_cmpR (op_neD hr.units) (pv 10) (pe_lst (pa_cons (pv 9) (pa_cons (pv 9) (pa_nil)))) (nomark _)) (pw_or1 (pt_not (pt_val (pe_callB call_isi (by rfl) T.z_isinstance (by decide +kernel) (pa_cons (pe_ix ix_list (pv 10) (pe_int) (fun _ _ => rfl)) (pa_cons (pe_bltn (v := .ty "bool") rfl T.z_bool (by decide +kernel) rfl) (pa_nil)))))))))
      (pss_one (ps_ret (pe_bl)))
      (pss_nil))
      (pss_cons (ps_if (pt_cmpR (op_ne3 hr.units0) (pe_dm0 H_marks (rm hr) (passes_call (takes_of rfl rfl rfl rfl) fun _ _ _ _ h => h) (pv 12)) (pv 8) (nomark _))
      (pss_one (ps_ret (pe_bl)))
      (pss_nil))
      (pss_cons (ps_if (pt_not (pt_val (pe_dn D_law_equal (rm hr) rfl T.g_law_equal (passes_call (takes_of rfl rfl rfl rfl) fun _ _ _ _ h => h) (pa_cons (pv 2) (pa_cons (pv 14) (pa_cons (pv 4) (pa_cons (pv 3) (pa_nil))))))))
      (pss_one (ps_ret (pe_bl)))
      (pss_nil))
      (pss_cons (ps_set (i := 13) c_law.nd rfl (Or.inr rfl) (pe_dn D_law_pick (rm hr) rfl T.g_law_pick (passes_call (takes_of rfl rfl rfl rfl) fun _ _ _ _ h => h) (pa_cons (pv 2) (pa_cons (pe_lst (pa_cons (pe_int) (pa_cons (pe_un un_neg (pe_int)) (pa_cons (pe_int) (pa_cons (pe_non) (pa_cons (pe_bl) (pa_cons (pe_str) (pa_cons (pe_lst (pa_cons (pe_int) (pa_nil))) (pa_cons (pe_tup (pa_cons (pe_int) (pa_nil))) (pa_cons (pe_op op_pow (pe_int) (pe_int)) (pa_nil))))))))))) (pa_nil)))))
      (pss_cons (ps_if (pt_cmpR (op_neD hr.units) (pe_act1 (k := 10) FR bR c_law_refused rfl (Or.inl rfl) (fun _ => act_refused (k := 4) (rm hr) hG T.toTRf) (rm hr) rfl T.g_law_refused (lamS_by (sc := defScope s_law) (by decide +kernel)) (fun _ _ _ _ _ => rfl) (fun A1 o1 s1 H1 E1 f1 c1 hr => (pe_sm T.sm_seldom D_seldomE (rm hr) rfl T.g_Rule (passes_call (takes_of rfl rfl rfl rfl) fun _ _ _ _ h => h) (pa_cons (pv 13) (pa_nil)))) (pe_lam1 DL hc rfl rfl (fun I => I.ok) (lamS_by (sc := defScope s_law) (by decide +kernel)) rfl)) (pe_lst (pa_cons (pe_str) (pa_cons (pe_callB (cl_rep (by exact hG) (by have z := hu100 hr; exact z)) (by rfl) T.z_repr (by decide +kernel) (pa_cons (pv 13) (pa_nil))) (pa_cons (pe_bl) (pa_nil))))) (nomark _))
      (pss_one (ps_ret (pe_bl)))
      (pss_nil))
      (pss_cons (ps_set (i := 15) c_law.nd rfl (Or.inr rfl) (pe_dn D_law_pick (rm hr) rfl T.g_law_pick (passes_call (takes_of rfl rfl rfl rfl) fun _ _ _ _ h => h) (pa_cons (pv 2) (pa_cons (pe_lst (pa_cons (pe_non) (pa_cons (pe_bl) (pa_cons (pe_str) (pa_cons (pe_lst (pa_cons (pe_int) (pa_nil))) (pa_cons (pe_tup (pa_cons (pe_int) (pa_nil))) (pa_cons (pe_op op_add (pe_op op_pow (pe_int) (pe_int)) (pe_int)) (pa_cons (pe_dnewK) (pa_nil))))))))) (pa_nil)))))
      (pss_cons (ps_set (i := 11) c_law.nd rfl (Or.inl rfl) (pe_lst (pa_cons (pe_act1 (k := 10) FR bR c_law_refused rfl (Or.inl rfl) (fun _ => act_refused (k := 4) (rm hr) hG T.toTRf) (rm hr) rfl T.g_law_refused (lamS_by (sc := defScope s_law) (by decide +kernel)) (fun _ _ _ _ _ => rfl) (fun A1 o1 s1 H1 E1 f1 c1 hr => (pe_ci D_toldE T.ci (rm hr) (passes_call (takes_of rfl rfl rfl rfl) fun _ _ _ _ h => h) ((pv 14)) (pa_cons (pv 12) (pa_cons (pv 15) (pa_nil))))) (pe_lam1 DL hc rfl rfl (fun I => I.ok) (lamS_by (sc := defScope s_law) (by decide +kernel)) rfl)) (pa_cons (pe_dng D_too (by exact hG) (rm hr) rfl T.g_law_refused_too (passes_call (takes_of rfl rfl rfl rfl) fun _ _ _ _ h => h) (pa_cons (pv 14) (pa_cons (pv 15) (pa_nil)))) (pa_nil)))))
      (pss_one (ps_if (pt_cmpR (op_neD hr.units) (pv 11) (pe_lst (pa_cons (pe_lst (pa_cons (pe_str) (pa_cons (pe_callB (cl_rep (by exact hG) (by have z := hu100 hr; exact z)) (by rfl) T.z_repr (by decide +kernel) (pa_cons (pv 15) (pa_nil))) (pa_cons (pe_bl) (pa_nil))))) (pa_cons (pe_lst (pa_cons (pe_str) (pa_cons (pe_callB (cl_rep (by exact hG) (by have z := hu100 hr; exact z)) (by rfl) T.z_repr (by decide +kernel) (pa_cons (pv 15) (pa_nil))) (pa_cons (pe_bl) (pa_nil))))) (pa_nil)))) (nomark _))
      (pss_one (ps_ret (pe_bl)))
      (pss_nil)))))))))))))))))))))))))
      (pss_one (ps_ret (pe_bl))), ?_⟩)
  · obtain ⟨a, ns, rfl, _⟩ := h
    rfl
  · obtain ⟨a, ns, rfl, hS, hl, tb, k⟩ := h
    have S : Sh H (fun _ => False) H [] := Sh.start
    (purse 7012 => fail)
    refine g_lenL hS.sq ?_
    have hlen : (ns.map V.int).length ≤ 63 := by rw [List.length_map]; exact hl
    (purse 7012 => fail)
    refine g_loop (fun i σ H' => ∃ o1 o2 o3 o4 o5 o6 o7 o8 o9 o10 o11 o12 o13 o14 o15, σ = [some (.ref a), o1, o2, o3, o4, o5, o6, o7, o8, o9, o10, o11, o12, o13, o14, o15] ∧ SqF K H' a (ns.map V.int) ∧ Tabs (lamT K xs) H') ⟨_, _, _, _, _, _, _, _, _, _, _, _, _, _, _, rfl, hS, tb⟩ ?_ (fun σ H' _ => by (purse 7012 => fail); exact k _)
    rintro i σ H' hi ⟨o1, o2, o3, o4, o5, o6, o7, o8, o9, o10, o11, o12, o13, o14, o15, rfl, hF, tb'⟩
    clear S hS tb
    have S : Sh H' (fun _ => False) H' [] := Sh.start
    have hS' := hF.sq
    (purse 7012 => fail)
    rename_i b _ _ _ _ _ _ _ _ _
    refine use_pick (by assumption) (fun _ _ => by (purse 7005 => fail)) (by assumption) (by (purse 7004 => fail)) (by exact Nat.le_of_ble_eq_true rfl) (by exact Nat.le_of_ble_eq_true rfl) (ne_obj (Sh.has_ (by assumption) (by (purse 7004 => fail))) (Sh.has_ (by assumption) (by (purse 7004 => fail))) (by simp)) ?_
    intro v n1 s1 H1 hv hs1 S1
    obtain ⟨wd, rfl, hwd⟩ := wd_of hv
    (purse 7012 => fail)
    refine g_ixI 9 2000 (by (purse 7003 => fail)) (by omega) (by (purse 7020 => fail)) (by (purse 7019 => fail)) ?_
    intro most hm1 hm2
    (purse 7012 => fail)
    rename_i d nA sA HA hd0 hd1 hsA SA
    generalize hrd : 1 + d = r
    have hr1 : 1 ≤ r := by omega
    have hr2 : r ≤ 2000 := by omega
    refine use_lrule (Sh.cut (l' := [(b, .lst [.int nA, .int sA], true)]) SA (by (purse 7023 => fail))) hwd hr1 hr2 ?_
    intro q dq H2 S2
    (purse 7012 => fail)
    refine ⟨q, dq, _, rfl, by (purse 7003 => fail), ?_⟩
    rw [rk_word hwd]
    (purse 7012 => fail)
    refine ⟨q, dq, _, rfl, by (purse 7003 => fail), ?_⟩
    (purse 7012 => fail)
    refine g_eqS (r := decide (V.str wd = V.str "seldom")) rfl ?_
    clear S1 SA
    (purse 7012 => fail)
    rename_i pL HL hpL SL
    refine g_ivB (H := HL) (v := (rk wd r).wait) (fun c Q' q' => ?_) (fun c Q' q' => ?_) ?_
    · have c' := V.str.inj (of_decide_eq_true c)
      rw [c', rk_seldom] at q'
      (purse 7012 => fail)
      exact q'
    · rcases hwd with e | e | e
      · rw [e, rk_always] at q'
        (purse 7012 => fail)
        exact q'
      · rw [e, rk_never] at q'
        (purse 7012 => fail)
        exact q'
      · rw [e] at c
        exact absurd c (by decide +kernel)
    (purse 7012 => fail)
    refine g_neD (d := .list [.str wd, (rk wd r).waitD]) (dp_lst (by (purse 7003 => fail)) (.cons (.str _) (.cons (dp_wait _) .nil))) (dp_lst (by (purse 7003 => fail)) (.cons (.str _) (.cons (dp_wait _) .nil))) (by have z := shaped_k (rk wd r); rw [rk_word hwd] at z; exact z) ?_
    (purse 7012 => fail)
    (purse 7016 => fail)
    (purse 7012 => fail)
    rename_i d0 nB sB HB hd00 hd01 hsB SB
    generalize hst : d0 - 50 = st
    refine use_lrule (Sh.cut (l' := [(q, .ins (ga K "Rule") dq (rk wd r).fs, true), (b, .lst [.int nB, .int sB], true)]) SB (by (purse 7023 => fail))) (.inl rfl) (by decide) (by decide) ?_
    intro q0 dq0 H3 S3
    clear SB SL S2
    (purse 7012 => fail)
    refine use_pick (by assumption) (fun _ _ => by (purse 7005 => fail)) (by assumption) (by (purse 7004 => fail)) (by exact Nat.le_of_ble_eq_true rfl) (by exact Nat.le_of_ble_eq_true rfl) (ne_obj (Sh.has_ (by assumption) (by (purse 7004 => fail))) (Sh.has_ (by assumption) (by (purse 7004 => fail))) (by simp)) ?_
    intro v2 n2 s2 H4 hv2 hs2 S4
    have key := mk_of (n := st) S4 hv2
    clear S4 hv2
    obtain ⟨t0, xs0, y0, rfl, hmk, hy1, hy2, S4⟩ := key
    (purse 7012 => fail)
    refine g_mkfile (MC := ga K "Moment") (by assumption) (.int _) (by (purse 7004 => fail)) (by (purse 7004 => fail)) hmk ⟨by omega, by omega⟩ ?_
    intro f0 dx0 nd H5 S5
    clear S4
    (purse 7012 => fail)
    rename_i d1 nC sC HC hd10 hd11 hsC SC _ _ _ _ _ _ _ _ _ _ _ _ _ _ _ _ _ _ _ _ _ _ _ _ _ _ _ _
    generalize hla : st + 1 + d1 = la
    refine use_pick (by assumption) (fun _ _ => by (purse 7005 => fail)) (by assumption) (by (purse 7004 => fail)) (by exact Nat.le_of_ble_eq_true rfl) (by exact Nat.le_of_ble_eq_true rfl) (ne_obj (Sh.has_ (by assumption) (by (purse 7004 => fail))) (Sh.has_ (by assumption) (by (purse 7004 => fail))) (by simp)) ?_
    intro v3 n3 s3 H6 hv3 hs3 S6
    have key := dd_of S6 hv3
    clear S6 hv3 S5 SC S3
    obtain ⟨t1, xs1, kvs, rfl, hbk, S6⟩ := key
    (purse 7012 => fail)
    refine use_do (MC := ga K "Moment") S6 (by (purse 7005 => fail)) (by (purse 7004 => fail)) (by (purse 7004 => fail)) (by (purse 7004 => fail)) hbk (.int _) (by omega) ⟨by omega, by omega⟩ (fun _ _ _ => by (purse 7005 => fail)) ?_
    intro pd ps x1 y1 z1 H7 haf S7
    have S8 := Sh.cut (l' := [(nd, .dK (mk3 x1 y1 z1), true), (f0, .ins (ga K "File") dx0 (fl q0 nd la false), true), (q, .ins (ga K "Rule") dq (rk wd r).fs, true), (b, .lst [.int n3, .int s3], true)]) S7 (by (purse 7023 => fail))
    clear S6 S7
    (purse 7012 => fail)
    refine g_ixI 0 2100 (by (purse 7003 => fail)) (by omega) (by (purse 7020 => fail)) (by (purse 7019 => fail)) ?_
    intro am ham1 ham2
    (purse 7012 => fail)
    rename_i d3 nD sD HD _ _ hsD SD
    generalize hat : la + am = at1
    have S9 := Sh.cut (l' := [(nd, .dK (mk3 x1 y1 z1), true), (f0, .ins (ga K "File") dx0 (fl q0 nd la false), true), (q, .ins (ga K "Rule") dq (rk wd r).fs, true), (b, .lst [.int nD, .int sD], true)]) SD (by (purse 7023 => fail))
    clear SD S8
    refine use_marks S9 (by (purse 7004 => fail)) (by (purse 7004 => fail)) ?_
    intro pm Hm hpm Sm
    (purse 7012 => fail)
    refine g_dictD (by assumption) (by (purse 7003 => fail)) ?_
    intro mk HM hmk9 SM
    clear Sm S9
    (purse 7002 => fail)
    refine g_cut2 (fun σ9 H9 => σ9 = [some (.ref a), some (.int (i : Int)), some (.ref b), some (.str wd), some (.int r), some (.int st), some (.int la), some (.int at1), some (.ref mk), some (.bl ((rk wd r).told x1 y1 z1 at1)), o10, o11, some (.ref f0), o13, some (.ref q), o15] ∧ H9 = HM) ?_ ?_
    · intro nx' hnx
      (purse 7012 => fail)
      refine g_dg (v := .int x1) (by (purse 7003 => fail)) rfl ?_
      (purse 7012 => fail)
      refine g_dg (v := .int y1) (by (purse 7003 => fail)) rfl ?_
      (purse 7012 => fail)
      by_cases c1 : x1 ≤ y1
      · have hb : (RK.seldom r).told x1 y1 z1 at1 = true := by show (decide (x1 ≤ y1) || _) = true; rw [decide_eq_true c1, Bool.true_or]
        rw [decide_eq_true c1]
        (purse 7015 => fail)
        (purse 7012 => fail)
        rcases hwd with e | e | e
        · subst e
          refine g_neS (r := false) (by decide) ?_
          (purse 7012 => fail)
          (purse 7015 => fail)
          (purse 7012 => fail)
          refine g_eqS (r := true) (by decide) ?_
          (purse 7012 => fail)
          exact hnx _ _ ⟨by rw [rk_always]; rfl, rfl⟩
        · subst e
          refine g_neS (r := false) (by decide) ?_
          (purse 7012 => fail)
          (purse 7015 => fail)
          (purse 7012 => fail)
          refine g_eqS (r := false) (by decide) ?_
          (purse 7012 => fail)
          exact hnx _ _ ⟨by rw [rk_never]; rfl, rfl⟩
        · subst e
          refine g_neS (r := true) (by decide) ?_
          (purse 7012 => fail)
          (purse 7016 => fail)
          (purse 7012 => fail)
          exact hnx _ _ ⟨by rw [rk_seldom, hb], rfl⟩
      · rw [decide_eq_false c1]
        (purse 7016 => fail)
        (purse 7012 => fail)
        refine g_dg (v := .int x1) (by (purse 7003 => fail)) rfl ?_
        (purse 7012 => fail)
        refine g_dg (v := .int z1) (by (purse 7003 => fail)) rfl ?_
        (purse 7012 => fail)
        by_cases c2 : x1 ≤ z1
        · have hb : (RK.seldom r).told x1 y1 z1 at1 = true := by show (decide (x1 ≤ y1) || (decide (x1 ≤ z1) || _)) = true; rw [decide_eq_true c2, Bool.true_or, Bool.or_true]
          rw [decide_eq_true c2]
          (purse 7015 => fail)
          (purse 7012 => fail)
          rcases hwd with e | e | e
          · subst e
            refine g_neS (r := false) (by decide) ?_
            (purse 7012 => fail)
            (purse 7015 => fail)
            (purse 7012 => fail)
            refine g_eqS (r := true) (by decide) ?_
            (purse 7012 => fail)
            exact hnx _ _ ⟨by rw [rk_always]; rfl, rfl⟩
          · subst e
            refine g_neS (r := false) (by decide) ?_
            (purse 7012 => fail)
            (purse 7015 => fail)
            (purse 7012 => fail)
            refine g_eqS (r := false) (by decide) ?_
            (purse 7012 => fail)
            exact hnx _ _ ⟨by rw [rk_never]; rfl, rfl⟩
          · subst e
            refine g_neS (r := true) (by decide) ?_
            (purse 7012 => fail)
            (purse 7016 => fail)
            (purse 7012 => fail)
            exact hnx _ _ ⟨by rw [rk_seldom, hb], rfl⟩
        · have hb : (RK.seldom r).told x1 y1 z1 at1 = decide (r ≤ at1 - x1) := by show (decide (x1 ≤ y1) || (decide (x1 ≤ z1) || decide (r ≤ at1 - x1))) = _; rw [decide_eq_false c1, decide_eq_false c2, Bool.false_or, Bool.false_or]
          rw [decide_eq_false c2]
          (purse 7016 => fail)
          (purse 7012 => fail)
          refine g_dg (v := .int x1) (by (purse 7003 => fail)) rfl ?_
          (purse 7012 => fail)
          rcases hwd with e | e | e
          · subst e
            refine g_neS (r := false) (by decide) ?_
            (purse 7012 => fail)
            (purse 7015 => fail)
            (purse 7012 => fail)
            refine g_eqS (r := true) (by decide) ?_
            (purse 7012 => fail)
            exact hnx _ _ ⟨by rw [rk_always]; rfl, rfl⟩
          · subst e
            refine g_neS (r := false) (by decide) ?_
            (purse 7012 => fail)
            (purse 7015 => fail)
            (purse 7012 => fail)
            refine g_eqS (r := false) (by decide) ?_
            (purse 7012 => fail)
            exact hnx _ _ ⟨by rw [rk_never]; rfl, rfl⟩
          · subst e
            refine g_neS (r := true) (by decide) ?_
            (purse 7012 => fail)
            (purse 7016 => fail)
            (purse 7012 => fail)
            exact hnx _ _ ⟨by rw [rk_seldom, hb], rfl⟩
    rintro σ9 H9 ⟨rfl, rfl⟩
    (purse 7012 => fail)
    have nqf : q ≠ f0 := ne_obj (SM.has_ (by (purse 7004 => fail))) (SM.has_ (by (purse 7004 => fail))) ins_ne
    refine g_kci ?_
    (purse 7012 => fail)
    refine ⟨⟨_, _, by (purse 7003 => fail)⟩, q, dq, f0, dx0, q0, nd, la, x1, y1, z1, at1, _, false, rk wd r, rfl, .int _, by (purse 7003 => fail), by (purse 7003 => fail), by (purse 7003 => fail), nqf, by omega, by omega, fun H10 c10 => ?_⟩
    have S10 := SM.ch0 c10
    clear SM
    (purse 7012 => fail)
    refine g_kci ?_
    (purse 7012 => fail)
    refine ⟨⟨_, _, by (purse 7003 => fail)⟩, q, dq, f0, dx0, q0, nd, la, x1, y1, z1, at1, _, false, rk wd r, rfl, .mom (by (purse 7003 => fail)), by (purse 7003 => fail), by (purse 7003 => fail), by (purse 7003 => fail), nqf, by omega, by omega, fun H11 c11 => ?_⟩
    rename_i SM2
    have S11 := SM2.ch0 c11
    clear SM2 S10
    generalize htb : RK.told x1 y1 z1 at1 (rk wd r) = tbv
    (purse 7012 => fail)
    (purse 7016 => fail)
    (purse 7012 => fail)
    refine g_isi (.ty "bool") (.base (.bl _)) (kit_ty (b := "bool") (r := true) (by decide +kernel)) ?_
    (purse 7012 => fail)
    (purse 7016 => fail)
    (purse 7012 => fail)
    refine use_marks (by assumption) (by (purse 7004 => fail)) (by (purse 7004 => fail)) ?_
    intro pm2 Hm2 hpm2 Sm2
    (purse 7012 => fail)
    refine g_ne3 (by (purse 7003 => fail)) (by (purse 7003 => fail)) (same3 rfl rfl rfl) ?_
    (purse 7012 => fail)
    (purse 7016 => fail)
    have SN := Sh.cut (l' := [(nd, .dK (mk3 x1 y1 z1), true), (f0, .ins (ga K "File") dx0 (fl q0 nd la false), true), (q, .ins (ga K "Rule") dq (rk wd r).fs, true), (b, .lst [.int nD, .int sD], true)]) Sm2 (by (purse 7023 => fail))
    clear Sm2 S11
    (purse 7012 => fail)
    refine ⟨b, q, dq, nD, sD, r, wd, rfl, by (purse 7003 => fail), hsD, by (purse 7003 => fail), hwd, hr1, hr2, fun n5 s5 H13 c13 hb13 hs5 => ?_⟩
    have S13 := SN.ch1 (l' := [(nd, .dK (mk3 x1 y1 z1), true), (f0, .ins (ga K "File") dx0 (fl q0 nd la false), true), (q, .ins (ga K "Rule") dq (rk wd r).fs, true), (b, .lst [.int n5, .int s5], true)]) (by (purse 7005 => fail)) c13 hb13
    clear SN
    (purse 7012 => fail)
    (purse 7016 => fail)
    (purse 7012 => fail)
    refine g_pow10_20 ?_
    (purse 7012 => fail)
    refine use_pick (by assumption) (fun _ _ => by (purse 7005 => fail)) (by assumption) (by (purse 7004 => fail)) (by exact Nat.le_of_ble_eq_true rfl) (by exact Nat.le_of_ble_eq_true rfl) (ne_obj (Sh.has_ (by assumption) (by (purse 7004 => fail))) (Sh.has_ (by assumption) (by (purse 7004 => fail))) (by simp)) ?_
    intro v6 n6 s6 H14 hv6 hs6 S14
    have key := odd_key S14 hv6
    obtain ⟨dv, hpv, hru, hsh, hst6⟩ := key
    have S15 := Sh.cut (l' := [(nd, .dK (mk3 x1 y1 z1), true), (f0, .ins (ga K "File") dx0 (fl q0 nd la false), true), (q, .ins (ga K "Rule") dq (rk wd r).fs, true), (b, .lst [.int n6, .int s6], true)]) S14 (by (purse 7023 => fail))
    clear S14 S13 hv6
    (purse 7012 => fail)
    refine g_actr S15 soft0 tb' rfl ?_
    intro H20 H21 E2 Q2 e20 sf20 tb20 e21 S21 fin
    have hF20 := (hF.along S15 soft0).extN e20
    clear S15
    (purse 7012 => fail)
    refine ⟨_, dv, rfl, hpv.extN e21, hru, fun dd H22 hn22 c22 hx22 => fin _ dd _ _ _ H22 c22 hx22 (RepO.of ((hpv.extN e21).ch c22) hsh) (.head _) fun p5 H23 e23 S23 => ?_⟩
    clear fin S21
    (purse 7012 => fail)
    refine ⟨_, _, rfl, RepO.of (hpv.extN e23) hsh, ?_⟩
    (purse 7012 => fail)
    refine g_neD (d := .list [.str "rule", .str dv.shown, .bool true]) (by (purse 7010 => fail)) (by (purse 7010 => fail)) (shaped3 (by decide +kernel) hst6) ?_
    (purse 7012 => fail)
    (purse 7016 => fail)
    (purse 7012 => fail)
    refine g_dnew (by assumption) ?_
    intro _ _ _ _
    (purse 7012 => fail)
    refine use_pick (by assumption) (fun _ _ => by (purse 7005 => fail)) (by assumption) (by (purse 7004 => fail)) (by exact Nat.le_of_ble_eq_true rfl) (by exact Nat.le_of_ble_eq_true rfl) (ne_obj (Sh.has_ (by assumption) (by (purse 7004 => fail))) (Sh.has_ (by assumption) (by (purse 7004 => fail))) (by simp)) ?_
    intro v7 n7 s7 H24 hv7 hs7 S24
    have key := wrong_key S24 hv7
    obtain ⟨dw, hpw, hmo, hsw, hstw⟩ := key
    have S25 := Sh.cut (l' := [(nd, .dK (mk3 x1 y1 z1), true), (f0, .ins (ga K "File") dx0 (fl q0 nd la false), true), (q, .ins (ga K "Rule") dq (rk wd r).fs, true), (b, .lst [.int n7, .int s7], true)]) S24 (by (purse 7023 => fail))
    clear S24 S23 hv7
    (purse 7012 => fail)
    refine g_actr S25 sf20 tb20 rfl ?_
    intro H30 H31 E3 Q3 e30 sf30 tb30 e31 S31 fin
    have hF30 := (hF20.along S25 sf20).extN e30
    clear S25
    (purse 7012 => fail)
    refine g_kci ?_
    (purse 7012 => fail)
    refine ⟨⟨_, _, by (purse 7003 => fail)⟩, .inl ⟨q, dq, f0, dx0, q0, nd, la, 0, 0, 0, false, rk wd r, _, dw, rfl, by (purse 7003 => fail), by (purse 7003 => fail), hpw.extN e31, hmo, fun dd H32 hn32 c32 hx32 => fin _ dd _ _ _ H32 c32 hx32 (RepO.of ((hpw.extN e31).ch c32) hsw) (.tail _ (.tail _ (.head _))) fun p6 H33 e33 S33 => ?_⟩⟩
    clear fin S31
    (purse 7012 => fail)
    refine ⟨q, dq, rk wd r, _, dw, _, rfl, AF.Tabs.along tb30 S33 sf30, by (purse 7003 => fail), hpw.extN e33, RepO.of (hpw.extN e33) hsw, fun p7 H34 old34 e34 tb34 hl34 => ?_⟩
    have hp6 := e34 _ _ (S33.has_ .here) (fun _ z => nomatch z)
    have hF34 := (hF30.along S33 sf30).extN e34
    have hpw34 := hpw.extN (e33.trans e34)
    have S34 : Sh H34 (fun _ => False) H34 [(p7, .lst [.str "file", .str dw.shown, .bl true], false), (p6, .lst [.str "moment", .str dw.shown, .bl true], false)] := know0 (know0 Sh.start hp6 rfl) hl34 rfl
    clear S33
    (purse 7012 => fail)
    refine ⟨_, _, rfl, RepO.of (hpw34.ch (by (purse 7006 => fail))) hsw, ?_⟩
    (purse 7012 => fail)
    refine ⟨_, _, rfl, RepO.of (hpw34.ch (by (purse 7006 => fail))) hsw, ?_⟩
    (purse 7012 => fail)
    refine g_neD (d := .list [.list [.str "moment", .str dw.shown, .bool true], .list [.str "file", .str dw.shown, .bool true]]) (by (purse 7010 => fail)) (by (purse 7010 => fail)) (shaped32 (by decide +kernel) (by decide +kernel) hstw) ?_
    (purse 7012 => fail)
    (purse 7016 => fail)
    (purse 7012 => fail)
    exact ⟨_, _, _, _, _, _, _, _, _, _, _, _, _, _, _, rfl, hF34.along (by assumption) soft0, AF.Tabs.along tb34 (by assumption) soft0⟩
end

end K1
namespace K1
open PySem PySem.Spec PyProof.Rows L2 AF
set_option maxHeartbeats 0
/-! the end -/
section
open He
def lams : List Str := ["law", "_law_refused_too"]
def hdefs : List DA := [⟨fun K => ga K "law", "law", "law", s_law, [], []⟩,
  ⟨fun K => ga K "_law_source", "_law_source", "_law_source", s_law_source, [], []⟩,
  ⟨fun K => ga K "_law_draw", "_law_draw", "_law_draw", s_law_draw, [], []⟩,
  ⟨fun K => ga K "_law_pick", "_law_pick", "_law_pick", s_law_pick, [], []⟩,
  ⟨fun K => ga K "_law_rule", "_law_rule", "_law_rule", s_law_rule, [], []⟩,
  ⟨fun K => ga K "_law_refused", "_law_refused", "_law_refused", s_law_refused, [], []⟩,
  ⟨fun K => ga K "_law_refused_too", "_law_refused_too", "_law_refused_too", s_law_refused_too, [], []⟩,
  ⟨fun K => ga K "_law_equal", "_law_equal", "_law_equal", s_law_equal, [], []⟩,
  ⟨fun K => ga K "is_whole", "is_whole", "is_whole", s_is_whole, [], []⟩,
  ⟨fun K => ga K "is_time", "is_time", "is_time", s_is_time, [], []⟩,
  ⟨fun K => ga K "is_moment", "is_moment", "is_moment", s_is_moment, [], []⟩,
  ⟨fun K => ga K "is_deed", "is_deed", "is_deed", s_is_deed, [], []⟩,
  ⟨fun K => ga K "makes", "makes", "makes", s_makes, [], []⟩,
  ⟨fun K => ga K "backs", "backs", "backs", s_backs, [], []⟩,
  ⟨fun K => ga K "seconds_of", "seconds_of", "seconds_of", s_seconds_of, [], []⟩,
  ⟨fun K => ma K (ga K "Moment") "__init__", "__init__", "Moment.__init__", s_Moment___init__, [], []⟩,
  ⟨fun K => ma K (ga K "Rule") "__init__", "__init__", "Rule.__init__", s_Rule___init__, [], []⟩,
  ⟨fun K => He5.wf K (ga K "Rule") "staticmethod" "always", "always", "Rule.always", s_Rule_always, [], []⟩,
  ⟨fun K => He5.wf K (ga K "Rule") "staticmethod" "never", "never", "Rule.never", s_Rule_never, [], []⟩,
  ⟨fun K => He5.wf K (ga K "Rule") "staticmethod" "seldom", "seldom", "Rule.seldom", s_Rule_seldom, [], []⟩,
  ⟨fun K => ma K (ga K "Rule") "__call__", "__call__", "Rule.__call__", s_Rule___call__, [], []⟩,
  ⟨fun K => ma K (ga K "Rule") "__eq__", "__eq__", "Rule.__eq__", s_Rule___eq__, [], []⟩,
  ⟨getA "Rule" "word", "word", "Rule.word", s_Rule_word, [], []⟩,
  ⟨getA "Rule" "after", "after", "Rule.after", s_Rule_after, [], []⟩,
  ⟨fun K => ma K (ga K "File") "__init__", "__init__", "File.__init__", s_File___init__, [], []⟩,
  ⟨fun K => ma K (ga K "File") "marks", "marks", "File.marks", s_File_marks, [], []⟩,
  ⟨fun K => ma K (ga K "File") "do", "do", "File.do", s_File_do, [], []⟩,
  ⟨fun K => ma K (ga K "File") "shifts", "shifts", "File.shifts", s_File_shifts, [], []⟩,
  ⟨fun K => ma K (ga K "NoRule") "__init__", "__init__", "NoRule.__init__", s_NoRule___init__, [], []⟩,
  ⟨fun K => ma K (ga K "NoFile") "__init__", "__init__", "NoFile.__init__", s_NoFile___init__, [], []⟩,
  ⟨fun K => ma K (ga K "NoMoment") "__init__", "__init__", "NoMoment.__init__", s_NoMoment___init__, [], []⟩]
def hfacts (K : PySem.W.Frag) : List Bool := [(Fa.glo "Moment").ok K,
  (Fa.glo "is_whole").ok K,
  (Fa.glo "is_moment").ok K,
  (Fa.glo "number_of").ok K,
  (Fa.free "isinstance").ok K,
  (Fa.free "int").ok K,
  (Fa.free "bool").ok K,
  (Fa.cls "Moment").ok K,
  (Fa.noat "Moment" "number").ok K,
  insB K (ga K "Moment"),
  decide (PySem.W.kitOne K (.type "int") (.ref (ga K "Moment")) = some false),
  binB K .Add (ga K "Moment") (ma K (ga K "Moment") "__add__"),
  binTB K .Add (ga K "Moment") "int",
  (Fa.glo "Rule").ok K,
  (Fa.cls "Rule").ok K,
  (Fa.noat "Rule" "chosen").ok K,
  (Fa.noat "Rule" "wait").ok K,
  (Fa.glo "is_time").ok K,
  (Fa.glo "is_deed").ok K,
  (Fa.glo "makes").ok K,
  (Fa.free "len").ok K,
  (Fa.free "tuple").ok K,
  (Fa.free "str").ok K,
  nowB K (ga K "SET_NOW") "make" ["read", "written", "changed"],
  nowB K (ga K "SET_NOW") "read" [],
  nowB K (ga K "SET_NOW") "write" ["written", "changed"],
  nowB K (ga K "SET_NOW") "rename" ["changed"],
  nowB K (ga K "SET_NOW") "touch" ["read", "written", "changed"],
  nowB K (ga K "SET_NOW") "unpack" ["read", "changed"],
  nowB K (ga K "SET_NOW") "setback" ["changed"],
  nowB K (ga K "SET_BACK") "unpack" ["written"],
  nowB K (ga K "SET_BACK") "setback" ["read", "written"],
  (Fa.glo "MARKS").ok K,
  ktB K (ga K "MARKS") ["read", "written", "changed"],
  (Fa.glo "SET_NOW").ok K,
  (Fa.glo "SET_BACK").ok K,
  (["make", "read", "write", "rename", "touch"] : List Str).all fun x => eqO (PySem.W.nsIn K (ga K "SET_BACK") x) (some none),
  (["Make"] : List Str).all fun x => eqO (PySem.W.nsIn K (ga K "SET_NOW") x) (some none),
  (Fa.glo "File").ok K,
  (Fa.glo "AnyFile").ok K,
  (Fa.glo "seconds_of").ok K,
  (Fa.glo "backs").ok K,
  (Fa.glo "AgeError").ok K,
  (Fa.glo "NoRule").ok K,
  (Fa.glo "NoFile").ok K,
  (Fa.glo "NoMoment").ok K,
  (Fa.glo "_law_source").ok K,
  (Fa.glo "_law_draw").ok K,
  (Fa.glo "_law_pick").ok K,
  (Fa.glo "_law_rule").ok K,
  (Fa.glo "_law_refused").ok K,
  (Fa.glo "_law_refused_too").ok K,
  (Fa.glo "_law_equal").ok K,
  (Fa.free "dict").ok K,
  (Fa.free "list").ok K,
  (Fa.free "abs").ok K,
  (Fa.free "repr").ok K,
  (Fa.free "range").ok K,
  (Fa.free "max").ok K,
  (Fa.free "min").ok K,
  (Fa.cls "File").ok K,
  (Fa.noat "File" "noted").ok K,
  insB K (ga K "File"),
  decide (PySem.W.kitOne K (.ref (ga K "File")) (.ref (ga K "AnyFile")) = some true),
  (Fa.noat "File" "ruling").ok K,
  (Fa.noat "File" "done_at").ok K,
  (Fa.noat "File" "holding").ok K,
  ciB K (ga K "Rule") (ma K (ga K "Rule") "__call__"),
  insB K (ga K "Rule"),
  cmpB K .Eq (ga K "Rule") (ma K (ga K "Rule") "__eq__"),
  PySem.W.notFirst K (ga K "Rule") (.ref (ga K "Rule")),
  PySem.W.notFirst K (ga K "Rule") (.type "str"),
  decide (PySem.W.kitOne K (.type "str") (.ref (ga K "Rule")) = some false),
  (["NoneType", "bool", "int", "str", "list", "tuple", "dict"] : List String).all fun t => decide (PySem.W.kitOne K (.type t) (.ref (ga K "Moment")) = some false),
  (["NoneType", "bool", "int", "str", "list", "tuple", "dict"] : List String).all fun t => decide (PySem.W.kitOne K (.type t) (.ref (ga K "AnyFile")) = some false),
  smB K (ga K "Rule") "always" (ma K (ga K "Rule") "always") (He5.wf K (ga K "Rule") "staticmethod" "always"),
  smB K (ga K "Rule") "never" (ma K (ga K "Rule") "never") (He5.wf K (ga K "Rule") "staticmethod" "never"),
  smB K (ga K "Rule") "seldom" (ma K (ga K "Rule") "seldom") (He5.wf K (ga K "Rule") "staticmethod" "seldom"),
  exB K (ga K "NoRule"),
  (Fa.noat "NoRule" "value").ok K,
  decide (PySem.W.kitOne K (.ref (ga K "NoRule")) (.ref (ga K "AgeError")) = some true),
  exB K (ga K "NoFile"),
  (Fa.noat "NoFile" "value").ok K,
  decide (PySem.W.kitOne K (.ref (ga K "NoFile")) (.ref (ga K "AgeError")) = some true),
  exB K (ga K "NoMoment"),
  (Fa.noat "NoMoment" "value").ok K,
  decide (PySem.W.kitOne K (.ref (ga K "NoMoment")) (.ref (ga K "AgeError")) = some true),
  decide (PySem.W.exmOne K (.ref (ga K "NoRule")) (.ref (ga K "NoRule")) = some true),
  decide (PySem.W.exmOne K (.ref (ga K "NoFile")) (.ref (ga K "NoRule")) = some false),
  decide (PySem.W.exmOne K (.ref (ga K "NoFile")) (.ref (ga K "NoFile")) = some true),
  decide (PySem.W.exmOne K (.ref (ga K "NoMoment")) (.ref (ga K "NoRule")) = some false),
  decide (PySem.W.exmOne K (.ref (ga K "NoMoment")) (.ref (ga K "NoFile")) = some false),
  decide (PySem.W.exmOne K (.ref (ga K "NoMoment")) (.ref (ga K "NoMoment")) = some true),
  lamB K lams,
  decide (PySem.W.findIn K (.ref (ga K "NoRule")) "__init__" = some (some (.ref (ma K (ga K "NoRule") "__init__")))),
  decide (PySem.W.typeIn K (.ref (ma K (ga K "NoRule") "__init__")) = some (.type "function")),
  oexB K (ga K "NoRule"),
  decide (PySem.W.findIn K (.ref (ga K "NoFile")) "__init__" = some (some (.ref (ma K (ga K "NoFile") "__init__")))),
  decide (PySem.W.typeIn K (.ref (ma K (ga K "NoFile") "__init__")) = some (.type "function")),
  oexB K (ga K "NoFile"),
  decide (PySem.W.findIn K (.ref (ga K "NoMoment")) "__init__" = some (some (.ref (ma K (ga K "NoMoment") "__init__")))),
  decide (PySem.W.typeIn K (.ref (ma K (ga K "NoMoment") "__init__")) = some (.type "function")),
  oexB K (ga K "NoMoment"),
  (Fa.mkr "Moment").ok K,
  (Fa.mkr "Rule").ok K,
  (Fa.meth "File" "marks").ok K,
  propB K (ga K "Rule") "word" (getA "Rule" "word" K),
  propB K (ga K "Rule") "after" (getA "Rule" "after" K),
  (Fa.mkr "File").ok K,
  (Fa.meth "File" "shifts").ok K,
  (Fa.meth "File" "do").ok K,
  (Fa.glo "law").ok K]
def htabs : List Tab := [(fun K => ga K "SET_NOW", ["make", "read", "write", "rename", "touch", "unpack", "setback"]), (fun K => ga K "SET_BACK", ["unpack", "setback"])]
abbrev R : PySem.W.OpenRow := PySem.W.OpenLaw.row PySem.Challenge.rw_agedfiles_k07_rules_told
abbrev hk : PySem.W.Hook := hookM 5 lams hfacts hdefs htabs
def ob (s : PySem.W.SharedT) : AF.SeenT × Bool := lookTM 5 lams hfacts hdefs htabs (HandSHeadRun.getT s)
theorem ob_eq (s : PySem.W.SharedT) : ob s = hk.obs s.abs := lookTM_eq (HandSHeadRun.getT_eq s)
abbrev names : List PySem.Str := (["_wall", "__name__", "AnyFile", "AgeError", "NoMoment", "NoRule", "NoFile", "NoDeed", "NoMark", "is_whole", "is_time", "is_moment", "Moment", "number_of", "seconds_of", "Rule", "MARKS", "SET_NOW", "SET_BACK", "is_deed", "makes", "backs", "is_looks", "File", "_law_source", "_law_draw", "_law_pick", "_law_rule", "_law_refused", "_law_refused_too"] : List PySem.Str) ++ (["_law_equal"] : List PySem.Str)
theorem run0 (w : World) : HandSHeadRun.RunEq R (PySem.W.view R.prog [38]) hk ob 12000 names (w.withFollow "special-get-raises" false) := by
  intro os
  kernel_rfl
theorem run1 (w : World) : HandSHeadRun.RunEq R (PySem.W.view R.prog [38]) hk ob 12000 names (w.withFollow "special-get-raises" true) := by
  intro os
  kernel_rfl
theorem run (w : World) : HandSHeadRun.RunEq R (PySem.W.view R.prog [38]) hk ob 12000 names w :=
  PySem.W.byRow2 "special-get-raises" (P := fun w => HandSHeadRun.RunEq R (PySem.W.view R.prog [38]) hk ob 12000 names w) run0 run1 w
end

end K1
namespace K1
open PySem PySem.Spec PyProof.Rows L2 AF LamX
local macro_rules | `(tactic| purse 7003 => fail) => `(tactic| k_dflt (refine Sh.has_ (by assumption) ?_; repeat (first | exact On.here | apply On.next)))
local macro_rules | `(tactic| purse 7004 => fail) => `(tactic| k_dflt (repeat (first | exact On.here | apply On.next)))
local macro_rules | `(tactic| purse 7005 => fail) => `(tactic| (repeat (first | exact Rep.here | apply Rep.next)))
local macro_rules | `(tactic| purse 7006 => fail) => `(tactic| (exact Sh.out (by assumption) (fun b h => by simp [h])))
local macro_rules | `(tactic| purse 7007 => fail) => `(tactic| k_dflt (first | ((with_reducible refine cdivw ?_ ?_) <;> omega) | ((with_reducible show CDiv _ _); constructor <;> omega) | ((with_reducible show CMul _ _); (first | (left; constructor <;> omega) | (right; constructor <;> omega))) | (show (0 : Int) < _; omega)))
local macro_rules | `(tactic| purse 7008 => fail) => `(tactic| first | exact Kd.int _ | exact Kd.bl _ | exact Kd.non | exact Kd.str _ | exact Kd.ins (by (purse 7003 => fail)) | exact Kd.lst (by (purse 7003 => fail)) | exact Kd.tup (by (purse 7003 => fail)))
local macro_rules | `(tactic| purse 7009 => fail) => `(tactic| first | exact DpAll.nil | (apply DpAll.cons; (purse 7010 => fail); (purse 7009 => fail)))
local macro_rules | `(tactic| purse 7010 => fail) => `(tactic| first | exact Dp.int _ | exact Dp.bl _ | exact Dp.non | exact Dp.str _ | (refine dp_int ?_; omega) | (refine dp_bl ?_; simp only [decide_eq_decide]; omega) | (apply dp_lst; (purse 7003 => fail); (purse 7009 => fail)) | (apply dp_tup; (purse 7003 => fail); (purse 7009 => fail)))
local macro_rules | `(tactic| purse 7011 => fail) => `(tactic| first | assumption | omega)
local macro_rules | `(tactic| purse 7001 => fail) => `(tactic| fail "no use")
local macro_rules | `(tactic| purse 7002 => fail) => `(tactic| first
  | (with_reducible refine set_go ?_)
  | (with_reducible refine Step.go ?_)
  | (with_reducible first | refine g_pow10_6 ?_ | refine g_pow10_7 ?_ | refine g_pow10_18 ?_ | refine g_pow10_29 ?_ | refine g_pow10_30 ?_)
  | ((with_reducible refine' g_I ?a0 ?_); (case a0 => (purse 7007 => fail)))
  | ((with_reducible refine' g_ixL ?a0 ?a1 ?_); (case a0 => (purse 7003 => fail)); (case a1 => k_dflt (exact rfl)))
  | ((with_reducible refine' g_kfld ?a0 ?a1 ?a2 ?a3 ?_); (case a0 => (purse 7003 => fail)); (case a1 => k_dflt (assumption)); (case a2 => k_dflt (assumption)); (case a3 => k_dflt (exact rfl)))
  | ((with_reducible refine' g_kprop ?a0 ?_); (case a0 => (purse 7003 => fail)))
  | ((with_reducible refine' g_kmeth ?a0 ?a1 ?_); (case a0 => (purse 7003 => fail)); (case a1 => k_dflt (exact rfl)))
  | ((with_reducible refine' g_own ?a0 ?a1 ?a2 ?_); (case a0 => (purse 7003 => fail)); (case a1 => (purse 7008 => fail)); (case a2 => k_dflt (assumption)))
  | ((with_reducible refine' g_cmp ?a0 ?a1 ?a2 ?_); (case a0 => (purse 7003 => fail)); (case a1 => (purse 7008 => fail)); (case a2 => k_dflt (assumption)))
  | ((with_reducible refine' g_neq ?a0 ?a1 ?a2 ?_); (case a0 => (purse 7003 => fail)); (case a1 => (purse 7008 => fail)); (case a2 => k_dflt (assumption)))
  | ((with_reducible refine' g_right ?a0 ?_); (case a0 => (purse 7003 => fail)))
  | ((with_reducible refine' use_draw ?a0 ?a1 ?a2 ?a3 ?a4 ?_); (case a0 => assumption); (case a1 => intro _ _; (purse 7005 => fail)); (case a2 => assumption); (case a3 => (purse 7011 => fail)); (case a4 => (purse 7011 => fail)); intro _ _ _ _ _ _ _ _)
  | ((with_reducible refine' use_giveI ?a0 ?a1 ?a2 ?_); (case a0 => assumption); (case a1 => intro _ _; (purse 7005 => fail)); (case a2 => assumption); intro _ _ _ _ _ _ _ _)
  | ((with_reducible refine' use_source ?a0 ?a1 ?_); (case a0 => assumption); (case a1 => k_dflt (assumption)); intro _ _ _ _ _ _)
  | (with_reducible refine g_absN ?_; intro _ _)
  | (with_reducible refine g_maxN ?_; intro _ _ _ _)
  | (with_reducible refine g_minN ?_; intro _ _ _ _)
  | ((with_reducible refine' g_kR1 ?a0 ?a1 ?_); (case a0 => omega); (case a1 => omega))
  | ((with_reducible refine' g_neD ?a0 ?a1 ?a2 ?_); (case a0 => (purse 7010 => fail)); (case a1 => (purse 7010 => fail)); (case a2 => k_dflt (rfl)))
  | ((with_reducible refine' g_eqD ?a0 ?a1 ?a2 ?_); (case a0 => (purse 7010 => fail)); (case a1 => (purse 7010 => fail)); (case a2 => k_dflt (rfl)))
  | ((with_reducible refine' g_klst ?a0 ?a1 ?_); (case a0 => assumption); (case a1 => k_dflt (exact rfl)); intro _ _ _ _)
  | ((with_reducible refine' g_ktup ?a0 ?a1 ?_); (case a0 => assumption); (case a1 => k_dflt (exact rfl)); intro _ _ _ _)
  | ((with_reducible refine' g_setL ?a0 ?a1 ?a2 ?_); (case a0 => assumption); (case a1 => (purse 7005 => fail)); (case a2 => k_dflt (exact rfl)); intro _ _)
  | ((with_reducible refine' g_unl3 ?a0 ?_); (case a0 => (purse 7003 => fail)))
  | (purse 7001 => fail))
local macro_rules | `(tactic| purse 7012 => fail) => `(tactic| ((try (with_reducible refine start_go ?_)); repeat (purse 7002 => fail)))
local macro_rules | `(tactic| purse 7013 => fail) => `(tactic| first | rfl | (refine decide_eq_true ?_; omega) | (simp only [Bool.not_eq_true', Bool.not_eq_false', decide_eq_false_iff_not, decide_eq_true_eq, Bool.not_not, decide_eq_decide]; done) | (simp only [Bool.not_eq_true', Bool.not_eq_false', decide_eq_false_iff_not, decide_eq_true_eq, Bool.not_not, decide_eq_decide]; omega))
local macro_rules | `(tactic| purse 7014 => fail) => `(tactic| first | rfl | (refine decide_eq_false ?_; omega) | (simp only [Bool.not_eq_true', Bool.not_eq_false', decide_eq_false_iff_not, decide_eq_true_eq, Bool.not_not, decide_eq_decide]; done) | (simp only [Bool.not_eq_true', Bool.not_eq_false', decide_eq_false_iff_not, decide_eq_true_eq, Bool.not_not, decide_eq_decide]; omega))
local macro_rules | `(tactic| purse 7015 => fail) => `(tactic| ((refine g_yes ?h ?_); (case h => (purse 7013 => fail))))
local macro_rules | `(tactic| purse 7016 => fail) => `(tactic| ((refine g_no ?h ?_); (case h => (purse 7014 => fail))))
local macro_rules | `(tactic| purse 7017 => fail) => `(tactic| first | (purse 7015 => fail) | (purse 7016 => fail))
local macro_rules | `(tactic| purse 7018 => fail) => `(tactic| repeat ((purse 7012 => fail); (purse 7017 => fail)))
local macro_rules | `(tactic| purse 7019 => fail) => `(tactic| repeat (first | exact intIn_nil | refine intIn_cons (by omega) (by omega) ?_))
local macro_rules | `(tactic| purse 7020 => fail) => `(tactic| (simp only [List.length_cons, List.length_nil]; omega))
local macro_rules | `(tactic| purse 7021 => fail) => `(tactic| (refine g_two (fun c => ?_) (fun c => ?_) <;> first | (have c := of_decide_eq_true c) | (have c := of_decide_eq_false c) | skip))
local macro_rules | `(tactic| purse 7022 => fail) => `(tactic| ((purse 7018 => fail); (purse 7012 => fail); try ((purse 7021 => fail) <;> (purse 7022 => fail))))

section
open He
variable {P : Program} {w : World} {K : PySem.W.Frag} {mg : Str → Option Value} {base : Heap} {f : Addr} {fd : FuncData}
theorem err_NoRule (F : FnP K "__init__" "NoRule.__init__" s_NoRule___init__ f fd) (T : OexC K (ga K "NoRule")) (hno : PySem.W.findIn K (.ref (ga K "NoRule")) "value" = some none) : FnOk P w K mg base (L2.CX P w) 3 f fd ["self", "value"] (spErr (ga K "NoRule") "value") := by
  refine F.ok c_NoRule___init__ (fun vs H Q E h => ?_) (fun cdv A outer s H vs Q E hr h => ⟨_, pss_one (ps_ost (pv 0) (pv 1)), ?_⟩)
  · obtain ⟨a, v, rfl, _⟩ := h
    rfl
  · obtain ⟨a, v, rfl, ha, k⟩ := h
    exact read_err (E := E) (σ := [some (.ref a), some v]) T hno ⟨a, v, rfl, ha, k⟩ StartI.en (fun a2 v2 e => by cases e; exact ⟨rfl, rfl⟩)
theorem err_NoFile (F : FnP K "__init__" "NoFile.__init__" s_NoFile___init__ f fd) (T : OexC K (ga K "NoFile")) (hno : PySem.W.findIn K (.ref (ga K "NoFile")) "value" = some none) : FnOk P w K mg base (L2.CX P w) 3 f fd ["self", "value"] (spErr (ga K "NoFile") "value") := by
  refine F.ok c_NoFile___init__ (fun vs H Q E h => ?_) (fun cdv A outer s H vs Q E hr h => ⟨_, pss_one (ps_ost (pv 0) (pv 1)), ?_⟩)
  · obtain ⟨a, v, rfl, _⟩ := h
    rfl
  · obtain ⟨a, v, rfl, ha, k⟩ := h
    exact read_err (E := E) (σ := [some (.ref a), some v]) T hno ⟨a, v, rfl, ha, k⟩ StartI.en (fun a2 v2 e => by cases e; exact ⟨rfl, rfl⟩)
theorem err_NoMoment (F : FnP K "__init__" "NoMoment.__init__" s_NoMoment___init__ f fd) (T : OexC K (ga K "NoMoment")) (hno : PySem.W.findIn K (.ref (ga K "NoMoment")) "value" = some none) : FnOk P w K mg base (L2.CX P w) 3 f fd ["self", "value"] (spErr (ga K "NoMoment") "value") := by
  refine F.ok c_NoMoment___init__ (fun vs H Q E h => ?_) (fun cdv A outer s H vs Q E hr h => ⟨_, pss_one (ps_ost (pv 0) (pv 1)), ?_⟩)
  · obtain ⟨a, v, rfl, _⟩ := h
    rfl
  · obtain ⟨a, v, rfl, ha, k⟩ := h
    exact read_err (E := E) (σ := [some (.ref a), some v]) T hno ⟨a, v, rfl, ha, k⟩ StartI.en (fun a2 v2 e => by cases e; exact ⟨rfl, rfl⟩)
end

section
open He
theorem all_ok {P : Program} {w : World} {K : PySem.W.Frag} {h : Heap} {mg : Str → Option Value} {f : Addr} (X : K.In h) (G : h.Ns mainGlobals mg) (hfa : mg ("law" : Str) = some (.ref f)) (c : TellsT hfacts hdefs htabs w K) (hb : ∀ x ∈ lams, lawB K x = true) :
    ∃ fd : FuncData, (∀ (s : Shared) (v : Value), BindsTo s fd ⟨[v], []⟩ [("script", v)]) ∧ ∀ base : Heap, K.In base → base.Ns mainGlobals mg → (∀ p ∈ lamC K lams, TabB base mg p.1 p.2) → FnG P w K mg base (L2.CX P w) 16 f fd ["script"] (spLaw K lams) := by
  have nw1 := nowB_ok (c.d.fact 23 (b := nowB K (ga K "SET_NOW") "make" ["read", "written", "changed"]) rfl)
  have nw2 := nowB_ok (c.d.fact 24 (b := nowB K (ga K "SET_NOW") "read" []) rfl)
  have nw3 := nowB_ok (c.d.fact 25 (b := nowB K (ga K "SET_NOW") "write" ["written", "changed"]) rfl)
  have nw4 := nowB_ok (c.d.fact 26 (b := nowB K (ga K "SET_NOW") "rename" ["changed"]) rfl)
  have nw5 := nowB_ok (c.d.fact 27 (b := nowB K (ga K "SET_NOW") "touch" ["read", "written", "changed"]) rfl)
  have nw6 := nowB_ok (c.d.fact 28 (b := nowB K (ga K "SET_NOW") "unpack" ["read", "changed"]) rfl)
  have nw7 := nowB_ok (c.d.fact 29 (b := nowB K (ga K "SET_NOW") "setback" ["changed"]) rfl)
  have bk1 := nowB_ok (c.d.fact 30 (b := nowB K (ga K "SET_BACK") "unpack" ["written"]) rfl)
  have bk2 := nowB_ok (c.d.fact 31 (b := nowB K (ga K "SET_BACK") "setback" ["read", "written"]) rfl)
  have tm : TM K mg := {
    g_Moment := glo_ok X G (c.d.fact 0 (b := (Fa.glo "Moment").ok K) rfl),
    g_is_whole := glo_ok X G (c.d.fact 1 (b := (Fa.glo "is_whole").ok K) rfl),
    g_is_moment := glo_ok X G (c.d.fact 2 (b := (Fa.glo "is_moment").ok K) rfl),
    g_number_of := glo_ok X G (c.d.fact 3 (b := (Fa.glo "number_of").ok K) rfl),
    z_isinstance := free_ok X G (c.d.fact 4 (b := (Fa.free "isinstance").ok K) rfl),
    z_int := free_ok X G (c.d.fact 5 (b := (Fa.free "int").ok K) rfl),
    z_bool := free_ok X G (c.d.fact 6 (b := (Fa.free "bool").ok K) rfl),
    cl := cls_ok (c.d.fact 7 (b := (Fa.cls "Moment").ok K) rfl),
    nN := noat_ok (c.d.fact 8 (b := (Fa.noat "Moment" "number").ok K) rfl),
    ic := insB_ok (cls_ok (c.d.fact 7 (b := (Fa.cls "Moment").ok K) rfl)) (c.d.fact 9 (b := insB K (ga K "Moment")) rfl),
    ki := of_decide_eq_true (c.d.fact 10 (b := decide (PySem.W.kitOne K (.type "int") (.ref (ga K "Moment")) = some false)) rfl),
    ba := binB_ok (c.d.fact 11 (b := binB K .Add (ga K "Moment") (ma K (ga K "Moment") "__add__")) rfl),
    bi := binTB_ok (c.d.fact 12 (b := binTB K .Add (ga K "Moment") "int") rfl) }
  have tr : TR K w mg := {
    g_Rule := glo_ok X G (c.d.fact 13 (b := (Fa.glo "Rule").ok K) rfl),
    g_is_whole := glo_ok X G (c.d.fact 1 (b := (Fa.glo "is_whole").ok K) rfl),
    cl := cls_ok (c.d.fact 14 (b := (Fa.cls "Rule").ok K) rfl),
    nC := noat_ok (c.d.fact 15 (b := (Fa.noat "Rule" "chosen").ok K) rfl),
    nW := noat_ok (c.d.fact 16 (b := (Fa.noat "Rule" "wait").ok K) rfl) }
  have T : TW K w mg := {
    g_is_whole := glo_ok X G (c.d.fact 1 (b := (Fa.glo "is_whole").ok K) rfl),
    g_is_time := glo_ok X G (c.d.fact 17 (b := (Fa.glo "is_time").ok K) rfl),
    g_is_deed := glo_ok X G (c.d.fact 18 (b := (Fa.glo "is_deed").ok K) rfl),
    g_makes := glo_ok X G (c.d.fact 19 (b := (Fa.glo "makes").ok K) rfl),
    z_isinstance := free_ok X G (c.d.fact 4 (b := (Fa.free "isinstance").ok K) rfl),
    z_len := free_ok X G (c.d.fact 20 (b := (Fa.free "len").ok K) rfl),
    z_int := free_ok X G (c.d.fact 5 (b := (Fa.free "int").ok K) rfl),
    z_bool := free_ok X G (c.d.fact 6 (b := (Fa.free "bool").ok K) rfl),
    z_tuple := free_ok X G (c.d.fact 21 (b := (Fa.free "tuple").ok K) rfl),
    z_str := free_ok X G (c.d.fact 22 (b := (Fa.free "str").ok K) rfl),
    v_MARKS := ⟨_, glo_ok X G (c.d.fact 32 (b := (Fa.glo "MARKS").ok K) rfl), rfl⟩,
    marks := ktB_ok (c.d.fact 33 (b := ktB K (ga K "MARKS") ["read", "written", "changed"]) rfl),
    n_make := nw1,
    n_read := nw2,
    n_write := nw3,
    n_rename := nw4,
    n_touch := nw5,
    n_unpack := nw6,
    n_setback := nw7,
    b_unpack := bk1,
    b_setback := bk2,
    v_SET_NOW := ⟨_, glo_ok X G (c.d.fact 34 (b := (Fa.glo "SET_NOW").ok K) rfl), rfl⟩,
    v_SET_BACK := ⟨_, glo_ok X G (c.d.fact 35 (b := (Fa.glo "SET_BACK").ok K) rfl), rfl⟩,
    dn := c.tab 0,
    db := c.tab 1,
    now0 := fun x hx => by
      simp only [List.mem_cons, List.not_mem_nil, or_false] at hx
      rcases hx with rfl | rfl | rfl | rfl | rfl
      · exact now_some nw1
      · exact now_some nw2
      · exact now_some nw3
      · exact now_some nw4
      · exact now_some nw5,
    now1 := fun x hx => by
      simp only [List.mem_cons, List.not_mem_nil, or_false] at hx
      rcases hx with rfl | rfl
      · exact now_some nw6
      · exact now_some nw7,
    back1 := fun x hx => by
      simp only [List.mem_cons, List.not_mem_nil, or_false] at hx
      rcases hx with rfl | rfl
      · exact now_some bk1
      · exact now_some bk2,
    back0 := fun x hx => eqO_ok (List.all_eq_true.mp (c.d.fact 36 (b := (["make", "read", "write", "rename", "touch"] : List Str).all fun x => eqO (PySem.W.nsIn K (ga K "SET_BACK") x) (some none)) rfl) x hx),
    g_File := glo_ok X G (c.d.fact 38 (b := (Fa.glo "File").ok K) rfl),
    g_AnyFile := glo_ok X G (c.d.fact 39 (b := (Fa.glo "AnyFile").ok K) rfl),
    g_Moment := glo_ok X G (c.d.fact 0 (b := (Fa.glo "Moment").ok K) rfl),
    g_Rule := glo_ok X G (c.d.fact 13 (b := (Fa.glo "Rule").ok K) rfl),
    g_is_moment := glo_ok X G (c.d.fact 2 (b := (Fa.glo "is_moment").ok K) rfl),
    g_seconds_of := glo_ok X G (c.d.fact 40 (b := (Fa.glo "seconds_of").ok K) rfl),
    g_backs := glo_ok X G (c.d.fact 41 (b := (Fa.glo "backs").ok K) rfl),
    g_AgeError := glo_ok X G (c.d.fact 42 (b := (Fa.glo "AgeError").ok K) rfl),
    g_NoRule := glo_ok X G (c.d.fact 43 (b := (Fa.glo "NoRule").ok K) rfl),
    g_NoFile := glo_ok X G (c.d.fact 44 (b := (Fa.glo "NoFile").ok K) rfl),
    g_NoMoment := glo_ok X G (c.d.fact 45 (b := (Fa.glo "NoMoment").ok K) rfl),
    g_law_source := glo_ok X G (c.d.fact 46 (b := (Fa.glo "_law_source").ok K) rfl),
    g_law_draw := glo_ok X G (c.d.fact 47 (b := (Fa.glo "_law_draw").ok K) rfl),
    g_law_pick := glo_ok X G (c.d.fact 48 (b := (Fa.glo "_law_pick").ok K) rfl),
    g_law_rule := glo_ok X G (c.d.fact 49 (b := (Fa.glo "_law_rule").ok K) rfl),
    g_law_refused := glo_ok X G (c.d.fact 50 (b := (Fa.glo "_law_refused").ok K) rfl),
    g_law_refused_too := glo_ok X G (c.d.fact 51 (b := (Fa.glo "_law_refused_too").ok K) rfl),
    g_law_equal := glo_ok X G (c.d.fact 52 (b := (Fa.glo "_law_equal").ok K) rfl),
    z_dict := free_ok X G (c.d.fact 53 (b := (Fa.free "dict").ok K) rfl),
    z_list := free_ok X G (c.d.fact 54 (b := (Fa.free "list").ok K) rfl),
    z_abs := free_ok X G (c.d.fact 55 (b := (Fa.free "abs").ok K) rfl),
    z_repr := free_ok X G (c.d.fact 56 (b := (Fa.free "repr").ok K) rfl),
    z_range := free_ok X G (c.d.fact 57 (b := (Fa.free "range").ok K) rfl),
    z_max := free_ok X G (c.d.fact 58 (b := (Fa.free "max").ok K) rfl),
    z_min := free_ok X G (c.d.fact 59 (b := (Fa.free "min").ok K) rfl),
    cl := cls_ok (c.d.fact 60 (b := (Fa.cls "File").ok K) rfl),
    rcl := cls_ok (c.d.fact 14 (b := (Fa.cls "Rule").ok K) rfl),
    nN := noat_ok (c.d.fact 61 (b := (Fa.noat "File" "noted").ok K) rfl),
    nC := noat_ok (c.d.fact 15 (b := (Fa.noat "Rule" "chosen").ok K) rfl),
    nW := noat_ok (c.d.fact 16 (b := (Fa.noat "Rule" "wait").ok K) rfl),
    ic := insB_ok (cls_ok (c.d.fact 60 (b := (Fa.cls "File").ok K) rfl)) (c.d.fact 62 (b := insB K (ga K "File")) rfl),
    kF := of_decide_eq_true (c.d.fact 63 (b := decide (PySem.W.kitOne K (.ref (ga K "File")) (.ref (ga K "AnyFile")) = some true)) rfl),
    ki := of_decide_eq_true (c.d.fact 10 (b := decide (PySem.W.kitOne K (.type "int") (.ref (ga K "Moment")) = some false)) rfl),
    icM := insB_ok (cls_ok (c.d.fact 7 (b := (Fa.cls "Moment").ok K) rfl)) (c.d.fact 9 (b := insB K (ga K "Moment")) rfl),
    mnN := noat_ok (c.d.fact 8 (b := (Fa.noat "Moment" "number").ok K) rfl),
    nR := noat_ok (c.d.fact 64 (b := (Fa.noat "File" "ruling").ok K) rfl),
    nD := noat_ok (c.d.fact 65 (b := (Fa.noat "File" "done_at").ok K) rfl),
    nH := noat_ok (c.d.fact 66 (b := (Fa.noat "File" "holding").ok K) rfl),
    ci := ciB_ok (c.d.fact 67 (b := ciB K (ga K "Rule") (ma K (ga K "Rule") "__call__")) rfl),
    icR := insB_ok (cls_ok (c.d.fact 14 (b := (Fa.cls "Rule").ok K) rfl)) (c.d.fact 68 (b := insB K (ga K "Rule")) rfl),
    ceR := cmpB_ok (c.d.fact 69 (b := cmpB K .Eq (ga K "Rule") (ma K (ga K "Rule") "__eq__")) rfl),
    nfR := (c.d.fact 70 (b := PySem.W.notFirst K (ga K "Rule") (.ref (ga K "Rule"))) rfl),
    nfS := (c.d.fact 71 (b := PySem.W.notFirst K (ga K "Rule") (.type "str")) rfl),
    kRs := of_decide_eq_true (c.d.fact 72 (b := decide (PySem.W.kitOne K (.type "str") (.ref (ga K "Rule")) = some false)) rfl),
    kMo := fun t ht => of_decide_eq_true (List.all_eq_true.mp (c.d.fact 73 (b := (["NoneType", "bool", "int", "str", "list", "tuple", "dict"] : List String).all fun t => decide (PySem.W.kitOne K (.type t) (.ref (ga K "Moment")) = some false)) rfl) t ht),
    kAF := fun t ht => of_decide_eq_true (List.all_eq_true.mp (c.d.fact 74 (b := (["NoneType", "bool", "int", "str", "list", "tuple", "dict"] : List String).all fun t => decide (PySem.W.kitOne K (.type t) (.ref (ga K "AnyFile")) = some false)) rfl) t ht),
    sm_always := smB_ok (c.d.fact 75 (b := smB K (ga K "Rule") "always" (ma K (ga K "Rule") "always") (He5.wf K (ga K "Rule") "staticmethod" "always")) rfl),
    sm_never := smB_ok (c.d.fact 76 (b := smB K (ga K "Rule") "never" (ma K (ga K "Rule") "never") (He5.wf K (ga K "Rule") "staticmethod" "never")) rfl),
    sm_seldom := smB_ok (c.d.fact 77 (b := smB K (ga K "Rule") "seldom" (ma K (ga K "Rule") "seldom") (He5.wf K (ga K "Rule") "staticmethod" "seldom")) rfl),
    xc_NoRule := exB_ok (c.d.fact 78 (b := exB K (ga K "NoRule")) rfl),
    nov_NoRule := noat_ok (c.d.fact 79 (b := (Fa.noat "NoRule" "value").ok K) rfl),
    ka_NoRule := of_decide_eq_true (c.d.fact 80 (b := decide (PySem.W.kitOne K (.ref (ga K "NoRule")) (.ref (ga K "AgeError")) = some true)) rfl),
    xc_NoFile := exB_ok (c.d.fact 81 (b := exB K (ga K "NoFile")) rfl),
    nov_NoFile := noat_ok (c.d.fact 82 (b := (Fa.noat "NoFile" "value").ok K) rfl),
    ka_NoFile := of_decide_eq_true (c.d.fact 83 (b := decide (PySem.W.kitOne K (.ref (ga K "NoFile")) (.ref (ga K "AgeError")) = some true)) rfl),
    xc_NoMoment := exB_ok (c.d.fact 84 (b := exB K (ga K "NoMoment")) rfl),
    nov_NoMoment := noat_ok (c.d.fact 85 (b := (Fa.noat "NoMoment" "value").ok K) rfl),
    ka_NoMoment := of_decide_eq_true (c.d.fact 86 (b := decide (PySem.W.kitOne K (.ref (ga K "NoMoment")) (.ref (ga K "AgeError")) = some true)) rfl),
    mRR := of_decide_eq_true (c.d.fact 87 (b := decide (PySem.W.exmOne K (.ref (ga K "NoRule")) (.ref (ga K "NoRule")) = some true)) rfl),
    mFR := of_decide_eq_true (c.d.fact 88 (b := decide (PySem.W.exmOne K (.ref (ga K "NoFile")) (.ref (ga K "NoRule")) = some false)) rfl),
    mFF := of_decide_eq_true (c.d.fact 89 (b := decide (PySem.W.exmOne K (.ref (ga K "NoFile")) (.ref (ga K "NoFile")) = some true)) rfl),
    mMR := of_decide_eq_true (c.d.fact 90 (b := decide (PySem.W.exmOne K (.ref (ga K "NoMoment")) (.ref (ga K "NoRule")) = some false)) rfl),
    mMF := of_decide_eq_true (c.d.fact 91 (b := decide (PySem.W.exmOne K (.ref (ga K "NoMoment")) (.ref (ga K "NoFile")) = some false)) rfl),
    mMM := of_decide_eq_true (c.d.fact 92 (b := decide (PySem.W.exmOne K (.ref (ga K "NoMoment")) (.ref (ga K "NoMoment")) = some true)) rfl) }
  have th : TH K w mg := T.toTH
  have te : TE7 K w mg := th.toTE7
  have t2 : TF2 K w mg := th.toTF2
  have tf : TF K w mg := t2.toTF
  have td : TD K w mg := t2.toTD
  have tp : TPk K mg := th.toTPk
  have nd : (lams.map (lawP K)).Nodup := of_decide_eq_true (c.d.fact 93 (b := lamB K lams) rfl)
  obtain ⟨fd0, F0⟩ := c.d.def_ 0 rfl
  have F0 : FnP K "law" "law" s_law (ga K "law") fd0 := F0
  obtain ⟨fd1, F1⟩ := c.d.def_ 1 rfl
  have F1 : FnP K "_law_source" "_law_source" s_law_source (ga K "_law_source") fd1 := F1
  have b1 : Binds K fd1 ["script", "turn"] [] := F1.bindsN fun _ _ _ _ _ _ us hl => match us, hl with | [_, _], _ => rfl
  obtain ⟨fd2, F2⟩ := c.d.def_ 2 rfl
  have F2 : FnP K "_law_draw" "_law_draw" s_law_draw (ga K "_law_draw") fd2 := F2
  have b2 : Binds K fd2 ["source", "amount"] [] := F2.bindsN fun _ _ _ _ _ _ us hl => match us, hl with | [_, _], _ => rfl
  obtain ⟨fd3, F3⟩ := c.d.def_ 3 rfl
  have F3 : FnP K "_law_pick" "_law_pick" s_law_pick (ga K "_law_pick") fd3 := F3
  have b3 : Binds K fd3 ["source", "items"] [] := F3.bindsN fun _ _ _ _ _ _ us hl => match us, hl with | [_, _], _ => rfl
  obtain ⟨fd4, F4⟩ := c.d.def_ 4 rfl
  have F4 : FnP K "_law_rule" "_law_rule" s_law_rule (ga K "_law_rule") fd4 := F4
  have b4 : Binds K fd4 ["kind", "after"] [] := F4.bindsN fun _ _ _ _ _ _ us hl => match us, hl with | [_, _], _ => rfl
  obtain ⟨fd5, F5⟩ := c.d.def_ 5 rfl
  have F5 : FnP K "_law_refused" "_law_refused" s_law_refused (ga K "_law_refused") fd5 := F5
  have b5 : Binds K fd5 ["call"] [] := F5.bindsN fun _ _ _ _ _ _ us hl => match us, hl with | [_], _ => rfl
  obtain ⟨fd6, F6⟩ := c.d.def_ 6 rfl
  have F6 : FnP K "_law_refused_too" "_law_refused_too" s_law_refused_too (ga K "_law_refused_too") fd6 := F6
  have b6 : Binds K fd6 ["rule", "wrong"] [] := F6.bindsN fun _ _ _ _ _ _ us hl => match us, hl with | [_, _], _ => rfl
  obtain ⟨fd7, F7⟩ := c.d.def_ 7 rfl
  have F7 : FnP K "_law_equal" "_law_equal" s_law_equal (ga K "_law_equal") fd7 := F7
  have b7 : Binds K fd7 ["source", "rule", "after", "kind"] [] := F7.bindsN fun _ _ _ _ _ _ us hl => match us, hl with | [_, _, _, _], _ => rfl
  obtain ⟨fd8, F8⟩ := c.d.def_ 8 rfl
  have F8 : FnP K "is_whole" "is_whole" s_is_whole (ga K "is_whole") fd8 := F8
  have b8 : Binds K fd8 ["value"] [] := F8.bindsN fun _ _ _ _ _ _ us hl => match us, hl with | [_], _ => rfl
  obtain ⟨fd9, F9⟩ := c.d.def_ 9 rfl
  have F9 : FnP K "is_time" "is_time" s_is_time (ga K "is_time") fd9 := F9
  have b9 : Binds K fd9 ["value"] [] := F9.bindsN fun _ _ _ _ _ _ us hl => match us, hl with | [_], _ => rfl
  obtain ⟨fd10, F10⟩ := c.d.def_ 10 rfl
  have F10 : FnP K "is_moment" "is_moment" s_is_moment (ga K "is_moment") fd10 := F10
  have b10 : Binds K fd10 ["value"] [] := F10.bindsN fun _ _ _ _ _ _ us hl => match us, hl with | [_], _ => rfl
  obtain ⟨fd11, F11⟩ := c.d.def_ 11 rfl
  have F11 : FnP K "is_deed" "is_deed" s_is_deed (ga K "is_deed") fd11 := F11
  have b11 : Binds K fd11 ["value"] [] := F11.bindsN fun _ _ _ _ _ _ us hl => match us, hl with | [_], _ => rfl
  obtain ⟨fd12, F12⟩ := c.d.def_ 12 rfl
  have F12 : FnP K "makes" "makes" s_makes (ga K "makes") fd12 := F12
  have b12 : Binds K fd12 ["value"] [] := F12.bindsN fun _ _ _ _ _ _ us hl => match us, hl with | [_], _ => rfl
  obtain ⟨fd13, F13⟩ := c.d.def_ 13 rfl
  have F13 : FnP K "backs" "backs" s_backs (ga K "backs") fd13 := F13
  have b13 : Binds K fd13 ["deed"] [] := F13.bindsN fun _ _ _ _ _ _ us hl => match us, hl with | [_], _ => rfl
  obtain ⟨fd14, F14⟩ := c.d.def_ 14 rfl
  have F14 : FnP K "seconds_of" "seconds_of" s_seconds_of (ga K "seconds_of") fd14 := F14
  have b14 : Binds K fd14 ["value"] [] := F14.bindsN fun _ _ _ _ _ _ us hl => match us, hl with | [_], _ => rfl
  obtain ⟨fd15, F15⟩ := c.d.def_ 15 rfl
  have F15 : FnP K "__init__" "Moment.__init__" s_Moment___init__ (ma K (ga K "Moment") "__init__") fd15 := F15
  have b15 : Binds K fd15 ["self", "seconds"] [] := F15.bindsN fun _ _ _ _ _ _ us hl => match us, hl with | [_, _], _ => rfl
  obtain ⟨fd16, F16⟩ := c.d.def_ 16 rfl
  have F16 : FnP K "__init__" "Rule.__init__" s_Rule___init__ (ma K (ga K "Rule") "__init__") fd16 := F16
  have b16 : Binds K fd16 ["self", "word", "after"] [] := F16.bindsN fun _ _ _ _ _ _ us hl => match us, hl with | [_, _, _], _ => rfl
  obtain ⟨fd17, F17⟩ := c.d.def_ 17 rfl
  have F17 : FnP K "always" "Rule.always" s_Rule_always (He5.wf K (ga K "Rule") "staticmethod" "always") fd17 := F17
  have b17 : Binds K fd17 [] [] := F17.bindsN fun _ _ _ _ _ _ us hl => match us, hl with | [], _ => rfl
  obtain ⟨fd18, F18⟩ := c.d.def_ 18 rfl
  have F18 : FnP K "never" "Rule.never" s_Rule_never (He5.wf K (ga K "Rule") "staticmethod" "never") fd18 := F18
  have b18 : Binds K fd18 [] [] := F18.bindsN fun _ _ _ _ _ _ us hl => match us, hl with | [], _ => rfl
  obtain ⟨fd19, F19⟩ := c.d.def_ 19 rfl
  have F19 : FnP K "seldom" "Rule.seldom" s_Rule_seldom (He5.wf K (ga K "Rule") "staticmethod" "seldom") fd19 := F19
  have b19 : Binds K fd19 ["after"] [] := F19.bindsN fun _ _ _ _ _ _ us hl => match us, hl with | [_], _ => rfl
  obtain ⟨fd20, F20⟩ := c.d.def_ 20 rfl
  have F20 : FnP K "__call__" "Rule.__call__" s_Rule___call__ (ma K (ga K "Rule") "__call__") fd20 := F20
  have b20 : Binds K fd20 ["self", "file", "at"] [] := F20.bindsN fun _ _ _ _ _ _ us hl => match us, hl with | [_, _, _], _ => rfl
  obtain ⟨fd21, F21⟩ := c.d.def_ 21 rfl
  have F21 : FnP K "__eq__" "Rule.__eq__" s_Rule___eq__ (ma K (ga K "Rule") "__eq__") fd21 := F21
  have b21 : Binds K fd21 ["self", "other"] [] := F21.bindsN fun _ _ _ _ _ _ us hl => match us, hl with | [_, _], _ => rfl
  obtain ⟨fd22, F22⟩ := c.d.def_ 22 rfl
  have F22 : FnP K "word" "Rule.word" s_Rule_word (getA "Rule" "word" K) fd22 := F22
  have b22 : Binds K fd22 ["self"] [] := F22.bindsN fun _ _ _ _ _ _ us hl => match us, hl with | [_], _ => rfl
  obtain ⟨fd23, F23⟩ := c.d.def_ 23 rfl
  have F23 : FnP K "after" "Rule.after" s_Rule_after (getA "Rule" "after" K) fd23 := F23
  have b23 : Binds K fd23 ["self"] [] := F23.bindsN fun _ _ _ _ _ _ us hl => match us, hl with | [_], _ => rfl
  obtain ⟨fd24, F24⟩ := c.d.def_ 24 rfl
  have F24 : FnP K "__init__" "File.__init__" s_File___init__ (ma K (ga K "File") "__init__") fd24 := F24
  have b24 : Binds K fd24 ["self", "rule", "deed", "at"] [] := F24.bindsN fun _ _ _ _ _ _ us hl => match us, hl with | [_, _, _, _], _ => rfl
  obtain ⟨fd25, F25⟩ := c.d.def_ 25 rfl
  have F25 : FnP K "marks" "File.marks" s_File_marks (ma K (ga K "File") "marks") fd25 := F25
  have b25 : Binds K fd25 ["self"] [] := F25.bindsN fun _ _ _ _ _ _ us hl => match us, hl with | [_], _ => rfl
  obtain ⟨fd26, F26⟩ := c.d.def_ 26 rfl
  have F26 : FnP K "do" "File.do" s_File_do (ma K (ga K "File") "do") fd26 := F26
  have b26 : Binds K fd26 ["self", "deed", "at"] [] := F26.bindsN fun _ _ _ _ _ _ us hl => match us, hl with | [_, _, _], _ => rfl
  obtain ⟨fd27, F27⟩ := c.d.def_ 27 rfl
  have F27 : FnP K "shifts" "File.shifts" s_File_shifts (ma K (ga K "File") "shifts") fd27 := F27
  have b27 : Binds K fd27 ["self", "deed", "moment"] [] := F27.bindsN fun _ _ _ _ _ _ us hl => match us, hl with | [_, _, _], _ => rfl
  obtain ⟨fd28, F28⟩ := c.d.def_ 28 rfl
  have F28 : FnP K "__init__" "NoRule.__init__" s_NoRule___init__ (ma K (ga K "NoRule") "__init__") fd28 := F28
  have b28 : Binds K fd28 ["self", "value"] [] := F28.bindsN fun _ _ _ _ _ _ us hl => match us, hl with | [_, _], _ => rfl
  obtain ⟨fd29, F29⟩ := c.d.def_ 29 rfl
  have F29 : FnP K "__init__" "NoFile.__init__" s_NoFile___init__ (ma K (ga K "NoFile") "__init__") fd29 := F29
  have b29 : Binds K fd29 ["self", "value"] [] := F29.bindsN fun _ _ _ _ _ _ us hl => match us, hl with | [_, _], _ => rfl
  obtain ⟨fd30, F30⟩ := c.d.def_ 30 rfl
  have F30 : FnP K "__init__" "NoMoment.__init__" s_NoMoment___init__ (ma K (ga K "NoMoment") "__init__") fd30 := F30
  have b30 : Binds K fd30 ["self", "value"] [] := F30.bindsN fun _ _ _ _ _ _ us hl => match us, hl with | [_, _], _ => rfl
  have e := hfa.symm.trans (glo_ok X G (c.d.fact 111 (b := (Fa.glo "law").ok K) rfl))
  cases e
  have bl := FunD.bindsA (ps := ["script"]) F0 fun _ _ _ _ _ _ us hl => match us, hl with | [_], _ => rfl
  refine ⟨fd0, fun s v => bl s [v] rfl, fun base _ _ hTB => ?_⟩
  have DL : Mkr K mg base lams "law" := mkr_of hTB hb nd (.head _)
  have DT : Mkr K mg base lams "_law_refused_too" := mkr_of hTB hb nd (.tail _ (.head _))
  have D_law_source : Dn P w K mg base 2 (ga K "_law_source") ["script", "turn"] (spSource K) := ⟨⟨fd1, ok_source F1 tp.toTL, b1⟩, F1.kp⟩
  have D_law_draw : Dn P w K mg base 2 (ga K "_law_draw") ["source", "amount"] (spDraw) := ⟨⟨fd2, ok_draw F2 tp.toTL, b2⟩, F2.kp⟩
  have D_law_pick : Dn P w K mg base 4 (ga K "_law_pick") ["source", "items"] (spPick) := ⟨⟨fd3, ok_pick F3 tp D_law_draw, b3⟩, F3.kp⟩
  have D_is_whole : Dn P w K mg base 2 (ga K "is_whole") ["value"] (spWhole) := ⟨⟨fd8, ok_whole F8 tm, b8⟩, F8.kp⟩
  have D_wholeD : Dn P w K mg base 2 (ga K "is_whole") ["value"] (spWholeD) := ⟨⟨fd8, ok_wholeD F8 td, b8⟩, F8.kp⟩
  have D_is_moment : Dn P w K mg base 4 (ga K "is_moment") ["value"] (spIsMo) := ⟨⟨fd10, ok_ismo F10 tm D_is_whole, b10⟩, F10.kp⟩
  have D_momD : Dn P w K mg base 4 (ga K "is_moment") ["value"] (spMomD) := ⟨⟨fd10, ok_momD F10 tm D_wholeD, b10⟩, F10.kp⟩
  have D_is_time : Dn P w K mg base 4 (ga K "is_time") ["value"] (spTime) := ⟨⟨fd9, ok_time F9 td D_is_whole, b9⟩, F9.kp⟩
  have D_is_deed : Dn P w K mg base 6 (ga K "is_deed") ["value"] (spDeed) := ⟨⟨fd11, ok_deed F11 td D_is_time, b11⟩, F11.kp⟩
  have D_makes : Dn P w K mg base 8 (ga K "makes") ["value"] (spMakes) := ⟨⟨fd12, ok_makes F12 td D_is_deed, b12⟩, F12.kp⟩
  have D_backs : Dn P w K mg base 8 (ga K "backs") ["deed"] (spBacks) := ⟨⟨fd13, ok_backs F13 td D_is_deed, b13⟩, F13.kp⟩
  have D_seconds_of : Dn P w K mg base 6 (ga K "seconds_of") ["value"] (spSecs (ga K "Moment")) := ⟨⟨fd14, ok_secs F14 tf D_is_moment, b14⟩, F14.kp⟩
  have X_NoRule : Xn P w K mg base 3 (ga K "NoRule") "value" := ⟨⟨_, fd28, ["self", "value"], of_decide_eq_true (c.d.fact 94 (b := decide (PySem.W.findIn K (.ref (ga K "NoRule")) "__init__" = some (some (.ref (ma K (ga K "NoRule") "__init__"))))) rfl), of_decide_eq_true (c.d.fact 95 (b := decide (PySem.W.typeIn K (.ref (ma K (ga K "NoRule") "__init__")) = some (.type "function"))) rfl), err_NoRule F28 (oexB_ok (c.d.fact 96 (b := oexB K (ga K "NoRule")) rfl)) (noat_ok (c.d.fact 79 (b := (Fa.noat "NoRule" "value").ok K) rfl)), b28⟩, oexB_ok (c.d.fact 96 (b := oexB K (ga K "NoRule")) rfl)⟩
  have X_NoFile : Xn P w K mg base 3 (ga K "NoFile") "value" := ⟨⟨_, fd29, ["self", "value"], of_decide_eq_true (c.d.fact 97 (b := decide (PySem.W.findIn K (.ref (ga K "NoFile")) "__init__" = some (some (.ref (ma K (ga K "NoFile") "__init__"))))) rfl), of_decide_eq_true (c.d.fact 98 (b := decide (PySem.W.typeIn K (.ref (ma K (ga K "NoFile") "__init__")) = some (.type "function"))) rfl), err_NoFile F29 (oexB_ok (c.d.fact 99 (b := oexB K (ga K "NoFile")) rfl)) (noat_ok (c.d.fact 82 (b := (Fa.noat "NoFile" "value").ok K) rfl)), b29⟩, oexB_ok (c.d.fact 99 (b := oexB K (ga K "NoFile")) rfl)⟩
  have X_NoMoment : Xn P w K mg base 3 (ga K "NoMoment") "value" := ⟨⟨_, fd30, ["self", "value"], of_decide_eq_true (c.d.fact 100 (b := decide (PySem.W.findIn K (.ref (ga K "NoMoment")) "__init__" = some (some (.ref (ma K (ga K "NoMoment") "__init__"))))) rfl), of_decide_eq_true (c.d.fact 101 (b := decide (PySem.W.typeIn K (.ref (ma K (ga K "NoMoment") "__init__")) = some (.type "function"))) rfl), err_NoMoment F30 (oexB_ok (c.d.fact 102 (b := oexB K (ga K "NoMoment")) rfl)) (noat_ok (c.d.fact 85 (b := (Fa.noat "NoMoment" "value").ok K) rfl)), b30⟩, oexB_ok (c.d.fact 102 (b := oexB K (ga K "NoMoment")) rfl)⟩
  have D_secsE : Dn P w K mg base 6 (ga K "seconds_of") ["value"] (spSecsE (ga K "NoMoment")) := ⟨⟨fd14, ok_secsE F14 te X_NoMoment D_momD, b14⟩, F14.kp⟩
  have M_Moment : Mn P w K mg base 6 (ga K "Moment") ["self", "seconds"] (spInit (ga K "Moment")) := ⟨⟨_, fd15, ok_init F15 tm D_is_moment, b15, mkr_ok (c.d.fact 103 (b := (Fa.mkr "Moment").ok K) rfl)⟩⟩
  have M_Rule : Mn P w K mg base 2 (ga K "Rule") ["self", "word", "after"] (spRInit (ga K "Rule")) := ⟨⟨_, fd16, ok_rinit F16 tr, b16, mkr_ok (c.d.fact 104 (b := (Fa.mkr "Rule").ok K) rfl)⟩⟩
  have D_always : Dn P w K mg base 5 (He5.wf K (ga K "Rule") "staticmethod" "always") [] (spRule0 (ga K "Rule") "always") := ⟨⟨fd17, ok_always F17 tr M_Rule, b17⟩, F17.kp⟩
  have D_never : Dn P w K mg base 5 (He5.wf K (ga K "Rule") "staticmethod" "never") [] (spRule0 (ga K "Rule") "never") := ⟨⟨fd18, ok_never F18 tr M_Rule, b18⟩, F18.kp⟩
  have D_seldom : Dn P w K mg base 5 (He5.wf K (ga K "Rule") "staticmethod" "seldom") ["after"] (spSeldom (ga K "Rule")) := ⟨⟨fd19, ok_seldom F19 tr D_is_whole M_Rule, b19⟩, F19.kp⟩
  have D_seldomE : Dn P w K mg base 6 (He5.wf K (ga K "Rule") "staticmethod" "seldom") ["after"] (spSeldomE (ga K "NoRule")) := ⟨⟨fd19, ok_seldomE F19 te X_NoRule M_Rule D_wholeD, b19⟩, F19.kp⟩
  have H_marks : Hn P w K mg base 2 (ga K "File") "marks" (spMarks (ga K "File")) := ⟨⟨_, fd25, ["self"], ok_marks F25 tf, b25, meth_ok (c.d.fact 105 (b := (Fa.meth "File" "marks").ok K) rfl)⟩, T.cl⟩
  have D_call : Dn P w K mg base 8 (ma K (ga K "Rule") "__call__") ["self", "file", "at"] (spTold (ga K "Rule") (ga K "File")) := ⟨⟨fd20, ok_told F20 tf D_seconds_of H_marks, b20⟩, F20.kp⟩
  have D_toldA : Dn P w K mg base 8 (ma K (ga K "Rule") "__call__") ["self", "file", "at"] (spToldA (ga K "Rule") (ga K "File") (ga K "Moment")) := ⟨⟨fd20, ok_toldA F20 tf D_seconds_of H_marks, b20⟩, F20.kp⟩
  have D_toldE : Dn P w K mg base 8 (ma K (ga K "Rule") "__call__") ["self", "file", "at"] (spToldE (ga K "Rule") (ga K "File") (ga K "NoMoment") (ga K "NoFile")) := ⟨⟨fd20, ok_toldE F20 te X_NoFile D_secsE H_marks, b20⟩, F20.kp⟩
  have D_req : Dn P w K mg base 4 (ma K (ga K "Rule") "__eq__") ["self", "other"] (spREq (ga K "Rule")) := ⟨⟨fd21, ok_req F21 t2, b21⟩, F21.kp⟩
  have D_reqS : Dn P w K mg base 4 (ma K (ga K "Rule") "__eq__") ["self", "other"] (spREqS (ga K "Rule")) := ⟨⟨fd21, ok_reqS F21 th, b21⟩, F21.kp⟩
  have R_word : Rn P w K mg base 2 (ga K "Rule") "word" (spWord (ga K "Rule")) := ⟨⟨_, _, fd22, ["self"], propB_ok (c.d.fact 106 (b := propB K (ga K "Rule") "word" (getA "Rule" "word" K)) rfl), ok_word F22 tf, b22⟩, T.rcl⟩
  have R_after : Rn P w K mg base 2 (ga K "Rule") "after" (spWait (ga K "Rule")) := ⟨⟨_, _, fd23, ["self"], propB_ok (c.d.fact 107 (b := propB K (ga K "Rule") "after" (getA "Rule" "after" K)) rfl), ok_wait F23 tf, b23⟩, T.rcl⟩
  have M_File : Mn P w K mg base 10 (ga K "File") ["self", "rule", "deed", "at"] (spFInit (ga K "Rule") (ga K "File") (ga K "Moment")) := ⟨⟨_, fd24, ok_finit F24 t2 D_makes D_seconds_of D_backs, b24, mkr_ok (c.d.fact 108 (b := (Fa.mkr "File").ok K) rfl)⟩⟩
  have H_shifts : Hn P w K mg base 10 (ga K "File") "shifts" (spShifts (ga K "Rule") (ga K "File")) := ⟨⟨_, fd27, ["self", "deed", "moment"], ok_shifts F27 t2 D_backs D_call, b27, meth_ok (c.d.fact 109 (b := (Fa.meth "File" "shifts").ok K) rfl)⟩, T.cl⟩
  have H_do : Hn P w K mg base 12 (ga K "File") "do" (spDo (ga K "Rule") (ga K "File") (ga K "Moment")) := ⟨⟨_, fd26, ["self", "deed", "at"], ok_do F26 t2 D_is_deed D_seconds_of D_makes H_shifts, b26, meth_ok (c.d.fact 110 (b := (Fa.meth "File" "do").ok K) rfl)⟩, T.cl⟩
  have D_law_rule : Dn P w K mg base 7 (ga K "_law_rule") ["kind", "after"] (spLRule (ga K "Rule")) := ⟨⟨fd4, ok_lrule F4 th D_always D_never D_seldom, b4⟩, F4.kp⟩
  have D_law_equal : Dn P w K mg base 9 (ga K "_law_equal") ["source", "rule", "after", "kind"] (spLEq (ga K "Rule")) := ⟨⟨fd7, ok_lequal F7 th D_law_draw D_law_pick D_law_rule D_req D_reqS R_word R_after, b7⟩, F7.kp⟩
  have D_too : DnG P w K mg base 12 (ga K "_law_refused_too") ["rule", "wrong"] (spToo K lams) := ⟨⟨fd6, ok_too F6 th F5 b5 DT D_toldE, b6⟩, F6.kp⟩
  exact ok_law F0 T F5 b5 DL D_law_draw D_law_source D_law_pick D_law_rule D_law_equal D_too R_word R_after M_File M_Moment H_marks H_do D_toldA D_toldE D_seldomE
end

end K1
open PySem PySem.W PySem.Calls PyProof.Rows
set_option maxRecDepth 100000 in
set_option maxHeartbeats 0 in
theorem PySem.Challenge.cw_agedfiles_k07_rules_told_holds : PySem.Challenge.rw_agedfiles_k07_rules_told.Holds := by
  w_on; o_law
  refine HandSHeadRun.head_any (r := OpenLaw.row PySem.Challenge.rw_agedfiles_k07_rules_told) (q := view (OpenLaw.row PySem.Challenge.rw_agedfiles_k07_rules_told).prog [38]) (H := K1.hk) (ob := K1.ob) (M := 12000) (loose := K1.names) (d := HandSHeadRun.topDef (OpenLaw.row PySem.Challenge.rw_agedfiles_k07_rules_told).prog 38) (kwd := []) K1.ob_eq
    (by kernel_rfl) (fun s => by kernel_rfl) K1.run (by kernel_rfl) (by kernel_rfl) (by kernel_rfl) (by rfl) (by first | assumption | decide +kernel) (by decide +kernel) ⟨rfl, rfl, rfl, rfl, rfl, by decide +kernel⟩ ?hw ?hc
  case hw => w_witness2
  case hc =>
    refine AF.walk_ofG (l := PySem.Challenge.rw_agedfiles_k07_rules_told) (n := 63) (k := 16) (x := "script") (CX := fun w => L2.CX (PySem.Challenge.rw_agedfiles_k07_rules_told).prog w) rfl (by decide) (by kernel_rfl) ⟨rfl, by decide, by decide⟩ ?F (fun _ _ _ _ _ z => ?N)
    case N =>
      obtain ⟨_, _, _, _, _, _, _, _, _, _, _, _, h⟩ := z
      exact h
    case F =>
      intro w mg fa h Y G hmg0
      obtain ⟨K, KX, c, hb0⟩ := Y
      have hb1 : ∀ x ∈ K1.lams, AF.lawB K x = true := fun x hx => (hb0 x hx).1
      have hmg : mg ("law" : PySem.Str) = some (.ref fa) := by
        have e : (HandSHeadRun.topDef (OpenLaw.row PySem.Challenge.rw_agedfiles_k07_rules_told).prog 38).name = ("law" : PySem.Str) := by kernel_rfl
        rw [← e]
        exact hmg0
      obtain ⟨fd, hb, hF⟩ := K1.all_ok (P := (PySem.Challenge.rw_agedfiles_k07_rules_told).prog) (w := w) KX G hmg c hb1
      exact ⟨K, KX, fd, AF.lamC K K1.lams, K1.spLaw K K1.lams, (fun p hp => by
        obtain ⟨x, hx, rfl⟩ := List.mem_map.mp hp
        exact (hb0 x hx).2), AF.lamC_n hb1, AF.lamC_C KX hb1, hb, fun H a ns hl _ hT hS => ⟨a, ns, rfl, hS, hl, AF.tabs0 hT, fun _ => rfl⟩, fun base h1 h2 h3 => hF base h1 h2 h3⟩
