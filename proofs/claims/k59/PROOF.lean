import PyProof.Rows.All
import Wide.All
import OpenK.AllK
import Wide.FinOn
import HandS.ForExc
import HandS.Comp
import HandS.Wide
import HandS.IsInst
import HandS.Codes
import HandS.ExcInit
import HandS.Property
import HandS.Defaults
import HandS.HeadHook2
import HandS.HeadEnd
import HandS.HeadNt
import HandS.Head2
import KE.DataEq
import HandS.NoneIn
import HandS.SetFor
import HandS.HeadWalk
import PySem.Challenge.RW_agedfiles_k59_whole_moments_as_numbers
set_option Elab.async false
set_option linter.all false
set_option maxRecDepth 100000
set_option maxHeartbeats 4000000
namespace AF
open PySem PySem.Spec PyProof.Rows L2

theorem rm {j k : Nat} {A : Around} (r : Room k A) (h : j ≤ k := by decide) : Room j A := r.mono h
/-! what stands on the heap, told by a list -/
abbrev Ent := Addr × HO × Bool
def tag (e : Ent) : Addr × Bool := (e.1, e.2.2)
def Apart (a b : Addr × Bool) : Prop := a.2 = true ∨ b.2 = true → a.1 ≠ b.1
structure Sh (H0 : Hp) (M : Addr → Prop) (H : Hp) (l : List Ent) : Prop where
  fr : ∀ b o, H0 b = some o → ¬ M b → H b = some o
  has : ∀ e, e ∈ l → H e.1 = some e.2.1
  ap : (l.map tag).Pairwise Apart
  mu : ∀ e, e ∈ l → e.2.2 = true → M e.1 ∨ H0 e.1 = none
/-- what a call leaves as it was: all but ms -/
def Ch (ms : List Addr) (H H' : Hp) : Prop := ∀ b o, H b = some o → b ∉ ms → H' b = some o
theorem Ch.rfl' {ms : List Addr} {H : Hp} : Ch ms H H := fun _ _ h _ => h
inductive Rep : List Ent → Addr → HO → HO → List Ent → Prop where
  | here {p : Addr} {o o' : HO} {r : List Ent} : Rep ((p, o, true) :: r) p o o' ((p, o', true) :: r)
  | next {e : Ent} {l : List Ent} {p : Addr} {o o' : HO} {l' : List Ent} : Rep l p o o' l' → Rep (e :: l) p o o' (e :: l')
theorem Rep.tags {l l' : List Ent} {p : Addr} {o o' : HO} (r : Rep l p o o' l') : l'.map tag = l.map tag := by
  induction r with
  | here => rfl
  | next _ ih => rw [List.map_cons, List.map_cons, ih]
theorem Rep.mem {l l' : List Ent} {p : Addr} {o o' : HO} (r : Rep l p o o' l') : (p, o, true) ∈ l := by
  induction r with
  | here => exact List.mem_cons_self
  | next _ ih => exact List.mem_cons_of_mem _ ih
theorem Rep.mem' {l l' : List Ent} {p : Addr} {o o' : HO} (r : Rep l p o o' l') : (p, o', true) ∈ l' := by
  induction r with
  | here => exact List.mem_cons_self
  | next _ ih => exact List.mem_cons_of_mem _ ih
theorem Rep.other {l l' : List Ent} {p : Addr} {o o' : HO} (r : Rep l p o o' l') (ap : (l.map tag).Pairwise Apart) : ∀ e, e ∈ l' → e = (p, o', true) ∨ (e ∈ l ∧ e.1 ≠ p) := by
  induction r with
  | here =>
    intro e he
    rcases List.mem_cons.mp he with h | h
    · exact .inl h
    · rw [List.map_cons, List.pairwise_cons] at ap
      exact .inr ⟨List.mem_cons_of_mem _ h, fun z => ap.1 (tag e) (List.mem_map.mpr ⟨e, h, rfl⟩) (.inl rfl) z.symm⟩
  | @next e0 l p o o' l' r ih =>
    intro e he
    rw [List.map_cons, List.pairwise_cons] at ap
    rcases List.mem_cons.mp he with h | h
    · subst h
      refine .inr ⟨List.mem_cons_self, fun z => ?_⟩
      exact ap.1 (tag (p, o, true)) (List.mem_map.mpr ⟨_, r.mem, rfl⟩) (.inr rfl) z
    · rcases ih ap.2 e h with h | ⟨h, n⟩
      · exact .inl h
      · exact .inr ⟨List.mem_cons_of_mem _ h, n⟩
inductive On : List Ent → Addr → HO → Prop where
  | here {p : Addr} {o : HO} {m : Bool} {r : List Ent} : On ((p, o, m) :: r) p o
  | next {e : Ent} {l : List Ent} {p : Addr} {o : HO} : On l p o → On (e :: l) p o
theorem On.mem {l : List Ent} {p : Addr} {o : HO} (h : On l p o) : ∃ m, (p, o, m) ∈ l := by
  induction h with
  | here => exact ⟨_, List.mem_cons_self⟩
  | next _ ih =>
    obtain ⟨m, h⟩ := ih
    exact ⟨m, List.mem_cons_of_mem _ h⟩
section
variable {H0 : Hp} {M : Addr → Prop} {H H' : Hp} {l l' : List Ent} {p q b : Addr} {o o' : HO} {m : Bool}
theorem Sh.at_ (S : Sh H0 M H l) (h : (p, o, m) ∈ l) : H p = some o := S.has _ h
theorem Sh.has_ (S : Sh H0 M H l) (h : On l p o) : H p = some o := by
  obtain ⟨m, h⟩ := h.mem
  exact S.has _ h
theorem Sh.ch0 (S : Sh H0 M H l) (c : Ch [] H H') : Sh H0 M H' l :=
  ⟨fun b o h n => c b o (S.fr b o h n) List.not_mem_nil, fun e he => c _ _ (S.has e he) List.not_mem_nil, S.ap, S.mu⟩
theorem Sh.ch1 (S : Sh H0 M H l) (r : Rep l p o o' l') (c : Ch [p] H H') (h : H' p = some o') : Sh H0 M H' l' := by
  have mp := S.mu _ r.mem rfl
  refine ⟨fun b u hb n => ?_, fun e he => ?_, by rw [r.tags]; exact S.ap, fun e he hm => ?_⟩
  · by_cases e : b = p
    · subst e
      rcases mp with k | k
      · exact absurd k n
      · rw [show H0 b = none from k] at hb; cases hb
    · exact c b u (S.fr b u hb n) (by simpa using e)
  · rcases r.other S.ap e he with h1 | ⟨h1, h2⟩
    · rw [h1]; exact h
    · exact c _ _ (S.has e h1) (by simpa using h2)
  · rcases r.other S.ap e he with h1 | ⟨h1, _⟩
    · rw [h1]; exact mp
    · exact S.mu e h1 hm
theorem Sh.add (S : Sh H0 M H l) (c : Ch [] H H') (hn : H q = none) (h : H' q = some o) : Sh H0 M H' ((q, o, true) :: l) := by
  have S' := S.ch0 c
  refine ⟨S'.fr, fun e he => ?_, ?_, fun e he hm => ?_⟩
  · rcases List.mem_cons.mp he with h1 | h1
    · rw [h1]; exact h
    · exact S'.has e h1
  · rw [List.map_cons, List.pairwise_cons]
    refine ⟨fun t ht _ z => ?_, S.ap⟩
    obtain ⟨e, he, rfl⟩ := List.mem_map.mp ht
    have z' : q = e.1 := z
    have := S.has e he
    rw [← z', hn] at this; cases this
  · rcases List.mem_cons.mp he with h1 | h1
    · rw [h1]
      by_cases k : M q
      · exact .inl k
      · refine .inr ?_
        cases e0 : H0 q with
        | none => rfl
        | some u => rw [S.fr q u e0 k] at hn; cases hn
    · exact S.mu e h1 hm
theorem ch_upd_new (hn : H p = none) : Ch [] H (upd H p o) := fun b u h _ => by
  rw [upd_ne (ne_of_none h hn)]; exact h
theorem ch_upd : Ch [p] H (upd H p o) := fun b u h n => by
  rw [upd_ne (by simpa using n)]; exact h
theorem Sh.new (S : Sh H0 M H l) (hn : H p = none) : Sh H0 M (upd H p o) ((p, o, true) :: l) := S.add (ch_upd_new hn) hn upd_same
theorem Sh.put (S : Sh H0 M H l) (r : Rep l p o o' l') : Sh H0 M (upd H p o') l' := S.ch1 r ch_upd upd_same
theorem Sh.out {ms : List Addr} (S : Sh H0 M H l) (h : ∀ b, M b → b ∈ ms) : Ch ms H0 H := fun b o hb n => S.fr b o hb fun k => n (h b k)
theorem Sh.was (S : Sh H0 M H l) (hn : H q = none) (k : ¬ M q) : H0 q = none := by
  cases e0 : H0 q with
  | none => rfl
  | some u => rw [S.fr q u e0 k] at hn; cases hn
theorem Sh.seq {K : PySem.W.Frag} {a : Addr} {xs : List V} (S : Sh H0 M H l) (k : ¬ M a) (h : SqL K H0 a xs) : SqL K H a xs := by
  rcases h with (h | ⟨o, h⟩) | h
  · exact .inl (.inl (S.fr _ _ h k))
  · exact .inl (.inr ⟨o, S.fr _ _ h k⟩)
  · exact .inr h
theorem Sh.start {M : Addr → Prop} : Sh H M H [] := ⟨fun _ _ h _ => h, fun _ h => (nomatch h), List.Pairwise.nil, fun _ h => (nomatch h)⟩
/-- one more thing that stands, not to be changed, apart from what may be -/
theorem Sh.know (S : Sh H0 M H l) (h : H p = some o) (d : ∀ e, e ∈ l → e.2.2 = true → p ≠ e.1) : Sh H0 M H ((p, o, false) :: l) := by
  refine ⟨S.fr, fun e he => ?_, ?_, fun e he hm => ?_⟩
  · rcases List.mem_cons.mp he with h1 | h1
    · rw [h1]; exact h
    · exact S.has e h1
  · rw [List.map_cons, List.pairwise_cons]
    refine ⟨fun t ht k => ?_, S.ap⟩
    obtain ⟨e, he, rfl⟩ := List.mem_map.mp ht
    rcases k with k | k
    · cases k
    · exact d e he k
  · rcases List.mem_cons.mp he with h1 | h1
    · rw [h1] at hm; cases hm
    · exact S.mu e h1 hm
/-- one that may be changed -/
theorem Sh.take (S : Sh H0 M H l) (h : H p = some o) (k : M p) (d : ∀ e, e ∈ l → p ≠ e.1) : Sh H0 M H ((p, o, true) :: l) := by
  refine ⟨S.fr, fun e he => ?_, ?_, fun e he hm => ?_⟩
  · rcases List.mem_cons.mp he with h1 | h1
    · rw [h1]; exact h
    · exact S.has e h1
  · rw [List.map_cons, List.pairwise_cons]
    refine ⟨fun t ht _ => ?_, S.ap⟩
    obtain ⟨e, he, rfl⟩ := List.mem_map.mp ht
    exact d e he
  · rcases List.mem_cons.mp he with h1 | h1
    · rw [h1]; exact .inl k
    · exact S.mu e h1 hm
end

/-! slots -/
inductive SetS : L2.St → Nat → V → L2.St → Prop where
  | z {a : Option V} {r : L2.St} {x : V} : SetS (a :: r) 0 x (some x :: r)
  | s {a : Option V} {r r' : L2.St} {i : Nat} {x : V} : SetS r i x r' → SetS (a :: r) (i + 1) x (a :: r')
theorem SetS.eq {σ σ' : L2.St} {i : Nat} {x : V} (h : SetS σ i x σ') : σ.set i (some x) = σ' := by
  induction h with
  | z => rfl
  | s _ ih => rw [List.set_cons_succ, ih]

/-! what is asked behind a part, by name -/
def kB (Q : Bool → Hp → Prop) (x : V) (H : Hp) : Prop := ∃ k, x = .bl k ∧ Q k H
def kAnd (Q : VK) (tb : TE) (σ : L2.St) (x : V) (H : Hp) : Prop := ∃ c, x = .bl c ∧ if c = true then tb σ H Q else Q (.bl false) H
def kOr (Q : VK) (tb : TE) (σ : L2.St) (x : V) (H : Hp) : Prop := ∃ c, x = .bl c ∧ if c = true then Q (.bl true) H else tb σ H Q
def kNot (Q : VK) (x : V) (H : Hp) : Prop := ∃ c, x = .bl c ∧ Q (.bl (!c)) H
def kLst (Q : VK) (xs : List V) (H : Hp) : Prop := xs.length ≤ sizeLine ∧ ∀ p, H p = none → Q (.ref p) (upd H p (.lst xs))
def kTup (Q : VK) (xs : List V) (H : Hp) : Prop := xs.length ≤ sizeLine ∧ ∀ p, H p = none → Q (.ref p) (upd H p (.tup xs))
def kFld (K : PySem.W.Frag) (f : Str) (Q : VK) (x : V) (H : Hp) : Prop := ∃ a C dx fs v, x = .ref a ∧ H a = some (.ins C dx fs) ∧ Cls K C ∧ NoAttr K C f ∧ fs.lookup f = some v ∧ Q v H
def kSFld (K : PySem.W.Frag) (f : Str) (P : Hp → Prop) (y x : V) (H : Hp) : Prop := ∃ a C dx fs, x = .ref a ∧ H a = some (.ins C dx fs) ∧ Cls K C ∧ NoAttr K C f ∧ fs.length < 1000 ∧ P (upd H a (.ins C dx (putF f y fs)))
def kPar (nx : L2.St → Hp → Prop) (σ : L2.St) (i j : Nat) (vs : List V) (H : Hp) : Prop := ∃ v w, vs = [v, w] ∧ nx ((σ.set i (some v)).set j (some w)) H

/-! one step each -/
section
variable {σ σ' : L2.St} {H : Hp} {Q : VK} {nx : L2.St → Hp → Prop} {rt : VK} {bk ct : L2.St → Hp → Prop} {ta tb te : TE} {t u : TS} {c : TT} {i j : Int} {x y : V} {K : PySem.W.Frag} {a C dx : Addr} {fs : List (Str × V)} {f : Str} {v : V}
theorem g_seq (h : t ⟨fun σ H => u ⟨nx, rt, bk, ct⟩ σ H, rt, bk, ct⟩ σ H) : tSeq t u ⟨nx, rt, bk, ct⟩ σ H := h
theorem g_next (h : nx σ H) : tNext ⟨nx, rt, bk, ct⟩ σ H := h
theorem g_asg {i : Nat} (h : te σ H fun x H1 => nx (σ.set i (some x)) H1) : tAsg te (gName i) ⟨nx, rt, bk, ct⟩ σ H := h
theorem g_set {i : Nat} {P : L2.St → Hp → Prop} (s : SetS σ i x σ') (h : P σ' H) : P (σ.set i (some x)) H := by rw [s.eq]; exact h
theorem g_ret (h : te σ H rt) : tRet te ⟨nx, rt, bk, ct⟩ σ H := h
theorem g_retN (h : rt .non H) : tRetN ⟨nx, rt, bk, ct⟩ σ H := h
theorem g_drop (h : te σ H fun _ H1 => nx σ H1) : tDrop te ⟨nx, rt, bk, ct⟩ σ H := h
theorem g_if (h : c σ H fun b H1 => if b = true then t ⟨nx, rt, bk, ct⟩ σ H1 else u ⟨nx, rt, bk, ct⟩ σ H1) : tIfS c t u ⟨nx, rt, bk, ct⟩ σ H := h
theorem g_var {i : Nat} (h : σ[i]? = some (some v)) (q : Q v H) : tVar i σ H Q := ⟨v, h, q⟩
theorem g_c (q : Q v H) : tC v σ H Q := q
theorem g_op {r : R2} (h : ta σ H fun x H1 => tb σ H1 fun y H2 => r x y H2 Q) : tOp r ta tb σ H Q := h
theorem g_un {r : V → Hp → VK → Prop} (h : ta σ H fun x H1 => r x H1 Q) : tUn r ta σ H Q := h
theorem g_I0 {g : Int → Int → V} (q : Q (g i j) H) : rI0 g (.int i) (.int j) H Q := ⟨i, j, rfl, rfl, q⟩
theorem g_I {D : Int → Int → Prop} {g : Int → Int → V} (d : D i j) (q : Q (g i j) H) : rI D g (.int i) (.int j) H Q := ⟨i, j, rfl, rfl, d, q⟩
theorem g_U {g : Int → V} (q : Q (g i) H) : rU g (.int i) H Q := ⟨i, rfl, q⟩
theorem g_eqI (q : Q (.bl (decide (i = j))) H) : rEq (.int i) (.int j) H Q := ⟨rfl, by
  have e : decide (V.int i = V.int j) = decide (i = j) := by rw [dec_int]; rfl
  rw [e]; exact q⟩
theorem g_neI (q : Q (.bl (!decide (i = j))) H) : rNe (.int i) (.int j) H Q := ⟨rfl, by
  have e : decide (V.int i = V.int j) = decide (i = j) := by rw [dec_int]; rfl
  rw [e]; exact q⟩
theorem g_test {Q : Bool → Hp → Prop} (h : te σ H (kB Q)) : tTest te σ H Q := h
theorem g_tB {Q : Bool → Hp → Prop} (h : te σ H (kB Q)) : tB te σ H Q := h
theorem g_kb {Q : Bool → Hp → Prop} {k : Bool} (q : Q k H) : kB Q (.bl k) H := ⟨k, rfl, q⟩
theorem g_kand {k : Bool} (q : if k = true then tb σ H Q else Q (.bl false) H) : kAnd Q tb σ (.bl k) H := ⟨k, rfl, q⟩
theorem g_kor {k : Bool} (q : if k = true then Q (.bl true) H else tb σ H Q) : kOr Q tb σ (.bl k) H := ⟨k, rfl, q⟩
theorem g_knot {k : Bool} (q : Q (.bl (!k)) H) : kNot Q (.bl k) H := ⟨k, rfl, q⟩
theorem g_tnot {Q : Bool → Hp → Prop} (h : c σ H fun k H1 => Q (!k) H1) : tNot c σ H Q := h
theorem g_tand {d : TT} {Q : Bool → Hp → Prop} (h : c σ H fun k H1 => if k = true then d σ H1 Q else Q false H1) : tAnd c d σ H Q := h
theorem g_tor {d : TT} {Q : Bool → Hp → Prop} (h : c σ H fun k H1 => if k = true then Q true H1 else d σ H1 Q) : tOr c d σ H Q := h
theorem g_andV (h : ta σ H (kAnd Q tb σ)) : tAndV ta tb σ H Q := h
theorem g_orV (h : ta σ H (kOr Q tb σ)) : tOrV ta tb σ H Q := h
theorem g_notV (h : ta σ H (kNot Q)) : tNotV ta σ H Q := h
theorem g_ifE (h : c σ H fun k H1 => if k = true then ta σ H1 Q else tb σ H1 Q) : tIf c ta tb σ H Q := h
theorem g_nil {Q : List V → Hp → Prop} (q : Q [] H) : tNil σ H Q := q
theorem g_cons {tr : TA} {Q : List V → Hp → Prop} (h : ta σ H fun x H1 => tr σ H1 fun xs H2 => Q (x :: xs) H2) : tCons ta tr σ H Q := h
theorem g_cb {r : List V → Hp → VK → Prop} {tr : TA} (h : tr σ H fun vs H1 => r vs H1 Q) : tCB r tr σ H Q := h
theorem g_call {sp : Sp} {E : XK} {tr : TA} (h : tr σ H fun vs H1 => sp vs H1 Q E) : tCall sp [] E tr σ H Q := by
  have e : (fun (vs : List V) (H1 : Hp) => sp (vs ++ []) H1 Q E) = fun vs H1 => sp vs H1 Q E := by
    funext vs H1; rw [List.append_nil]
  show tr σ H fun vs H1 => sp (vs ++ []) H1 Q E
  rw [e]; exact h
theorem g_lst {tr : TA} (h : tr σ H (kLst Q)) : tLst tr σ H Q := h
theorem g_tup {tr : TA} (h : tr σ H (kTup Q)) : tTup tr σ H Q := h
theorem line_of {n : Nat} (h : Nat.ble n 1000 = true) : n ≤ sizeLine := Nat.le_trans (Nat.le_of_ble_eq_true h) (Nat.le_of_lt (small1000 (Nat.le_refl _)))
theorem g_klst {H0 : Hp} {M : Addr → Prop} {l : List Ent} {xs : List V} (S : Sh H0 M H l) (hn : Nat.ble xs.length 1000 = true) (q : ∀ p H', H p = none → Sh H0 M H' ((p, .lst xs, true) :: l) → Q (.ref p) H') : kLst Q xs H := ⟨line_of hn, fun p hp => q p _ hp (S.new hp)⟩
theorem g_ktup {H0 : Hp} {M : Addr → Prop} {l : List Ent} {xs : List V} (S : Sh H0 M H l) (hn : Nat.ble xs.length 1000 = true) (q : ∀ p H', H p = none → Sh H0 M H' ((p, .tup xs, true) :: l) → Q (.ref p) H') : kTup Q xs H := ⟨line_of hn, fun p hp => q p _ hp (S.new hp)⟩
theorem g_fld (h : ta σ H (kFld K f Q)) : tFld K ta f σ H Q := h
theorem g_kfld (ho : H a = some (.ins C dx fs)) (hc : Cls K C) (hn : NoAttr K C f) (hl : fs.lookup f = some v) (q : Q v H) : kFld K f Q (.ref a) H :=
  ⟨a, C, dx, fs, v, rfl, ho, hc, hn, hl, q⟩
theorem g_sfld {tv : TE} (h : tv σ H fun y H1 => ta σ H1 (kSFld K f (nx σ) y)) : sFld K ta tv f ⟨nx, rt, bk, ct⟩ σ H := h
theorem g_ksfld {H0 : Hp} {M : Addr → Prop} {l l' : List Ent} {P : Hp → Prop} (S : Sh H0 M H l) (r : Rep l a (.ins C dx fs) (.ins C dx (putF f y fs)) l') (hc : Cls K C) (hn : NoAttr K C f) (hl : fs.length < 1000) (q : ∀ H', Sh H0 M H' l' → P H') : kSFld K f P y (.ref a) H :=
  ⟨a, C, dx, fs, rfl, S.has _ r.mem, hc, hn, hl, q _ (S.put r)⟩
theorem g_ixL {p : Addr} {xs : List V} (h : H p = some (.lst xs)) (ha : atI xs i = some v) (q : Q v H) : rIxL K (.ref p) (.int i) H Q := ⟨p, xs, i, v, rfl, rfl, SqL.of h, ha, q⟩
theorem g_ixQ {p : Addr} {xs : List V} (h : SqL K H p xs) (ha : atI xs i = some v) (q : Q v H) : rIxL K (.ref p) (.int i) H Q := ⟨p, xs, i, v, rfl, rfl, h, ha, q⟩
theorem g_sub {to ti : TE} {s : TSet} (h : te σ H fun x H1 => to σ H1 fun o H2 => ti σ H2 fun i H3 => s o i x H3 fun H4 => nx σ H4) : tAsg te (gSub to ti s) ⟨nx, rt, bk, ct⟩ σ H := h
theorem g_setL {H0 : Hp} {M : Addr → Prop} {l l' : List Ent} {P : Hp → Prop} {p : Addr} {xs : List V} {j : Nat} (S : Sh H0 M H l) (r : Rep l p (.lst xs) (.lst (xs.set j v)) l') (hj : ixN xs.length i = some j) (q : ∀ H', Sh H0 M H' l' → P H') :
    rSetL (.ref p) (.int i) v H P := ⟨p, xs, i, j, rfl, rfl, S.has _ r.mem, hj, q _ (S.put r)⟩
theorem g_par {i j : Nat} {tr : TA} (h : tr σ H (kPar nx σ i j)) : tPar i j tr ⟨nx, rt, bk, ct⟩ σ H := h
theorem g_kpar {i j : Nat} {σ2 : L2.St} (s : SetS σ i x σ') (s2 : SetS σ' j y σ2) (q : nx σ2 H) : kPar nx σ i j [x, y] H := ⟨x, y, rfl, by rw [s.eq, s2.eq]; exact q⟩
end

/-! the slots at the entry -/
inductive Ent0 : List Str → List V → L2.St → Prop where
  | nil : Ent0 [] [] []
  | val {x : Str} {N : List Str} {v : V} {vs : List V} {σ : L2.St} : Ent0 N vs σ → Ent0 (x :: N) (v :: vs) (some v :: σ)
  | non {x : Str} {N : List Str} {σ : L2.St} : Ent0 N [] σ → Ent0 (x :: N) [] (none :: σ)
theorem Ent0.eq {N : List Str} {vs : List V} {σ : L2.St} (h : Ent0 N vs σ) : L2.start N vs = σ := by
  induction h with
  | nil => rfl
  | @val x N v vs σ _ ih =>
    have e : (x :: N).length - (v :: vs).length = N.length - vs.length := by simp
    unfold L2.start at ih ⊢
    rw [e, List.map_cons, List.cons_append, ih]
  | @non x N σ _ ih =>
    unfold L2.start at ih ⊢
    simp only [List.map_nil, List.nil_append, List.length_cons, List.length_nil, Nat.sub_zero, List.replicate_succ] at ih ⊢
    rw [ih]
theorem g_start {N : List Str} {vs : List V} {σ : L2.St} {P : L2.St → Hp → Prop} {H : Hp} (h : Ent0 N vs σ) (q : P σ H) : P (L2.start N vs) H := by rw [h.eq]; exact q

theorem cdivw {i j : Int} (h1 : 1 ≤ j) (h2 : j ≤ 10 ^ 60) : CDivW i j := by
  refine wide_div (b := 200) (by omega) ?_ (by decide) (by decide)
  have e : ((j.natAbs : Nat) : Int) = j := Int.natAbs_of_nonneg (by omega)
  have e2 : ((10 : Int) ^ 60) < 2 ^ 200 := by decide
  have h : ((j.natAbs : Nat) : Int) < ((2 ^ 200 : Nat) : Int) := by
    rw [e]
    exact Int.lt_of_le_of_lt h2 (by decide)
  exact Int.ofNat_lt.mp h
/-! built-ins by named readings -/
def rInt1 : List V → Hp → VK → Prop := fun xs H Q => (∃ i, xs = [.int i] ∧ Q (.int i) H) ∨ ∃ k, xs = [.bl k] ∧ Q (.int (if k then 1 else 0)) H
def rAbs1 : List V → Hp → VK → Prop := fun xs H Q => ∃ i, xs = [.int i] ∧ Q (.int (if i < 0 then -i else i)) H
def rMaxI : List V → Hp → VK → Prop := fun xs H Q => ∃ i j, xs = [.int i, .int j] ∧ Q (.int (if j > i then j else i)) H
def rMinI : List V → Hp → VK → Prop := fun xs H Q => ∃ i j, xs = [.int i, .int j] ∧ Q (.int (if j < i then j else i)) H
def rLenQ (K : PySem.W.Frag) : List V → Hp → VK → Prop := fun xs H Q => ∃ p ys, xs = [.ref p] ∧ (SqL K H p ys ∨ SqT K H p ys) ∧ Q (.int ys.length) H
section
variable {X : Cx} {H : Hp} {Q : VK} {i j : Int} {K : PySem.W.Frag} {p : Addr} {xs : List V}
theorem cl_int : CallR X (.type "int") rInt1 := call_int1
theorem cl_abs : CallR X (.builtin "abs") rAbs1 := call_abs
theorem cl_max (hc : X.calm = true) : CallR X (.builtin "max") rMaxI := call_max2 hc
theorem cl_min (hc : X.calm = true) : CallR X (.builtin "min") rMinI := call_min2 hc
theorem cl_len : CallR X (.builtin "len") (rLenQ X.K) := call_len_seq
theorem g_pow10_2 (q : Q (.int 100) H) : rI CPow (fun i j => .int (i ^ j.toNat)) (.int 10) (.int 2) H Q := by
  refine ⟨10, 2, rfl, rfl, ⟨by decide, by decide, by decide⟩, ?_⟩
  have e : ((10 : Int) ^ (2 : Int).toNat) = 100 := by decide
  show Q (.int ((10 : Int) ^ (2 : Int).toNat)) H
  rw [e]; exact q
theorem g_pow10_3 (q : Q (.int 1000) H) : rI CPow (fun i j => .int (i ^ j.toNat)) (.int 10) (.int 3) H Q := by
  refine ⟨10, 3, rfl, rfl, ⟨by decide, by decide, by decide⟩, ?_⟩
  have e : ((10 : Int) ^ (3 : Int).toNat) = 1000 := by decide
  show Q (.int ((10 : Int) ^ (3 : Int).toNat)) H
  rw [e]; exact q
theorem g_pow10_4 (q : Q (.int 10000) H) : rI CPow (fun i j => .int (i ^ j.toNat)) (.int 10) (.int 4) H Q := by
  refine ⟨10, 4, rfl, rfl, ⟨by decide, by decide, by decide⟩, ?_⟩
  have e : ((10 : Int) ^ (4 : Int).toNat) = 10000 := by decide
  show Q (.int ((10 : Int) ^ (4 : Int).toNat)) H
  rw [e]; exact q
theorem g_pow10_5 (q : Q (.int 100000) H) : rI CPow (fun i j => .int (i ^ j.toNat)) (.int 10) (.int 5) H Q := by
  refine ⟨10, 5, rfl, rfl, ⟨by decide, by decide, by decide⟩, ?_⟩
  have e : ((10 : Int) ^ (5 : Int).toNat) = 100000 := by decide
  show Q (.int ((10 : Int) ^ (5 : Int).toNat)) H
  rw [e]; exact q
theorem g_pow10_6 (q : Q (.int 1000000) H) : rI CPow (fun i j => .int (i ^ j.toNat)) (.int 10) (.int 6) H Q := by
  refine ⟨10, 6, rfl, rfl, ⟨by decide, by decide, by decide⟩, ?_⟩
  have e : ((10 : Int) ^ (6 : Int).toNat) = 1000000 := by decide
  show Q (.int ((10 : Int) ^ (6 : Int).toNat)) H
  rw [e]; exact q
theorem g_pow10_7 (q : Q (.int 10000000) H) : rI CPow (fun i j => .int (i ^ j.toNat)) (.int 10) (.int 7) H Q := by
  refine ⟨10, 7, rfl, rfl, ⟨by decide, by decide, by decide⟩, ?_⟩
  have e : ((10 : Int) ^ (7 : Int).toNat) = 10000000 := by decide
  show Q (.int ((10 : Int) ^ (7 : Int).toNat)) H
  rw [e]; exact q
theorem g_pow10_8 (q : Q (.int 100000000) H) : rI CPow (fun i j => .int (i ^ j.toNat)) (.int 10) (.int 8) H Q := by
  refine ⟨10, 8, rfl, rfl, ⟨by decide, by decide, by decide⟩, ?_⟩
  have e : ((10 : Int) ^ (8 : Int).toNat) = 100000000 := by decide
  show Q (.int ((10 : Int) ^ (8 : Int).toNat)) H
  rw [e]; exact q
theorem g_pow10_9 (q : Q (.int 1000000000) H) : rI CPow (fun i j => .int (i ^ j.toNat)) (.int 10) (.int 9) H Q := by
  refine ⟨10, 9, rfl, rfl, ⟨by decide, by decide, by decide⟩, ?_⟩
  have e : ((10 : Int) ^ (9 : Int).toNat) = 1000000000 := by decide
  show Q (.int ((10 : Int) ^ (9 : Int).toNat)) H
  rw [e]; exact q
theorem g_pow10_10 (q : Q (.int 10000000000) H) : rI CPow (fun i j => .int (i ^ j.toNat)) (.int 10) (.int 10) H Q := by
  refine ⟨10, 10, rfl, rfl, ⟨by decide, by decide, by decide⟩, ?_⟩
  have e : ((10 : Int) ^ (10 : Int).toNat) = 10000000000 := by decide
  show Q (.int ((10 : Int) ^ (10 : Int).toNat)) H
  rw [e]; exact q
theorem g_pow10_11 (q : Q (.int 100000000000) H) : rI CPow (fun i j => .int (i ^ j.toNat)) (.int 10) (.int 11) H Q := by
  refine ⟨10, 11, rfl, rfl, ⟨by decide, by decide, by decide⟩, ?_⟩
  have e : ((10 : Int) ^ (11 : Int).toNat) = 100000000000 := by decide
  show Q (.int ((10 : Int) ^ (11 : Int).toNat)) H
  rw [e]; exact q
theorem g_pow10_12 (q : Q (.int 1000000000000) H) : rI CPow (fun i j => .int (i ^ j.toNat)) (.int 10) (.int 12) H Q := by
  refine ⟨10, 12, rfl, rfl, ⟨by decide, by decide, by decide⟩, ?_⟩
  have e : ((10 : Int) ^ (12 : Int).toNat) = 1000000000000 := by decide
  show Q (.int ((10 : Int) ^ (12 : Int).toNat)) H
  rw [e]; exact q
theorem g_pow10_13 (q : Q (.int 10000000000000) H) : rI CPow (fun i j => .int (i ^ j.toNat)) (.int 10) (.int 13) H Q := by
  refine ⟨10, 13, rfl, rfl, ⟨by decide, by decide, by decide⟩, ?_⟩
  have e : ((10 : Int) ^ (13 : Int).toNat) = 10000000000000 := by decide
  show Q (.int ((10 : Int) ^ (13 : Int).toNat)) H
  rw [e]; exact q
theorem g_pow10_14 (q : Q (.int 100000000000000) H) : rI CPow (fun i j => .int (i ^ j.toNat)) (.int 10) (.int 14) H Q := by
  refine ⟨10, 14, rfl, rfl, ⟨by decide, by decide, by decide⟩, ?_⟩
  have e : ((10 : Int) ^ (14 : Int).toNat) = 100000000000000 := by decide
  show Q (.int ((10 : Int) ^ (14 : Int).toNat)) H
  rw [e]; exact q
theorem g_pow10_15 (q : Q (.int 1000000000000000) H) : rI CPow (fun i j => .int (i ^ j.toNat)) (.int 10) (.int 15) H Q := by
  refine ⟨10, 15, rfl, rfl, ⟨by decide, by decide, by decide⟩, ?_⟩
  have e : ((10 : Int) ^ (15 : Int).toNat) = 1000000000000000 := by decide
  show Q (.int ((10 : Int) ^ (15 : Int).toNat)) H
  rw [e]; exact q
theorem g_pow10_16 (q : Q (.int 10000000000000000) H) : rI CPow (fun i j => .int (i ^ j.toNat)) (.int 10) (.int 16) H Q := by
  refine ⟨10, 16, rfl, rfl, ⟨by decide, by decide, by decide⟩, ?_⟩
  have e : ((10 : Int) ^ (16 : Int).toNat) = 10000000000000000 := by decide
  show Q (.int ((10 : Int) ^ (16 : Int).toNat)) H
  rw [e]; exact q
theorem g_pow10_17 (q : Q (.int 100000000000000000) H) : rI CPow (fun i j => .int (i ^ j.toNat)) (.int 10) (.int 17) H Q := by
  refine ⟨10, 17, rfl, rfl, ⟨by decide, by decide, by decide⟩, ?_⟩
  have e : ((10 : Int) ^ (17 : Int).toNat) = 100000000000000000 := by decide
  show Q (.int ((10 : Int) ^ (17 : Int).toNat)) H
  rw [e]; exact q
theorem g_pow10_18 (q : Q (.int 1000000000000000000) H) : rI CPow (fun i j => .int (i ^ j.toNat)) (.int 10) (.int 18) H Q := by
  refine ⟨10, 18, rfl, rfl, ⟨by decide, by decide, by decide⟩, ?_⟩
  have e : ((10 : Int) ^ (18 : Int).toNat) = 1000000000000000000 := by decide
  show Q (.int ((10 : Int) ^ (18 : Int).toNat)) H
  rw [e]; exact q
theorem g_pow10_19 (q : Q (.int 10000000000000000000) H) : rI CPow (fun i j => .int (i ^ j.toNat)) (.int 10) (.int 19) H Q := by
  refine ⟨10, 19, rfl, rfl, ⟨by decide, by decide, by decide⟩, ?_⟩
  have e : ((10 : Int) ^ (19 : Int).toNat) = 10000000000000000000 := by decide
  show Q (.int ((10 : Int) ^ (19 : Int).toNat)) H
  rw [e]; exact q
theorem g_pow10_20 (q : Q (.int 100000000000000000000) H) : rI CPow (fun i j => .int (i ^ j.toNat)) (.int 10) (.int 20) H Q := by
  refine ⟨10, 20, rfl, rfl, ⟨by decide, by decide, by decide⟩, ?_⟩
  have e : ((10 : Int) ^ (20 : Int).toNat) = 100000000000000000000 := by decide
  show Q (.int ((10 : Int) ^ (20 : Int).toNat)) H
  rw [e]; exact q
theorem g_pow10_21 (q : Q (.int 1000000000000000000000) H) : rI CPow (fun i j => .int (i ^ j.toNat)) (.int 10) (.int 21) H Q := by
  refine ⟨10, 21, rfl, rfl, ⟨by decide, by decide, by decide⟩, ?_⟩
  have e : ((10 : Int) ^ (21 : Int).toNat) = 1000000000000000000000 := by decide
  show Q (.int ((10 : Int) ^ (21 : Int).toNat)) H
  rw [e]; exact q
theorem g_pow10_22 (q : Q (.int 10000000000000000000000) H) : rI CPow (fun i j => .int (i ^ j.toNat)) (.int 10) (.int 22) H Q := by
  refine ⟨10, 22, rfl, rfl, ⟨by decide, by decide, by decide⟩, ?_⟩
  have e : ((10 : Int) ^ (22 : Int).toNat) = 10000000000000000000000 := by decide
  show Q (.int ((10 : Int) ^ (22 : Int).toNat)) H
  rw [e]; exact q
theorem g_pow10_23 (q : Q (.int 100000000000000000000000) H) : rI CPow (fun i j => .int (i ^ j.toNat)) (.int 10) (.int 23) H Q := by
  refine ⟨10, 23, rfl, rfl, ⟨by decide, by decide, by decide⟩, ?_⟩
  have e : ((10 : Int) ^ (23 : Int).toNat) = 100000000000000000000000 := by decide
  show Q (.int ((10 : Int) ^ (23 : Int).toNat)) H
  rw [e]; exact q
theorem g_pow10_24 (q : Q (.int 1000000000000000000000000) H) : rI CPow (fun i j => .int (i ^ j.toNat)) (.int 10) (.int 24) H Q := by
  refine ⟨10, 24, rfl, rfl, ⟨by decide, by decide, by decide⟩, ?_⟩
  have e : ((10 : Int) ^ (24 : Int).toNat) = 1000000000000000000000000 := by decide
  show Q (.int ((10 : Int) ^ (24 : Int).toNat)) H
  rw [e]; exact q
theorem g_pow10_25 (q : Q (.int 10000000000000000000000000) H) : rI CPow (fun i j => .int (i ^ j.toNat)) (.int 10) (.int 25) H Q := by
  refine ⟨10, 25, rfl, rfl, ⟨by decide, by decide, by decide⟩, ?_⟩
  have e : ((10 : Int) ^ (25 : Int).toNat) = 10000000000000000000000000 := by decide
  show Q (.int ((10 : Int) ^ (25 : Int).toNat)) H
  rw [e]; exact q
theorem g_pow10_26 (q : Q (.int 100000000000000000000000000) H) : rI CPow (fun i j => .int (i ^ j.toNat)) (.int 10) (.int 26) H Q := by
  refine ⟨10, 26, rfl, rfl, ⟨by decide, by decide, by decide⟩, ?_⟩
  have e : ((10 : Int) ^ (26 : Int).toNat) = 100000000000000000000000000 := by decide
  show Q (.int ((10 : Int) ^ (26 : Int).toNat)) H
  rw [e]; exact q
theorem g_pow10_27 (q : Q (.int 1000000000000000000000000000) H) : rI CPow (fun i j => .int (i ^ j.toNat)) (.int 10) (.int 27) H Q := by
  refine ⟨10, 27, rfl, rfl, ⟨by decide, by decide, by decide⟩, ?_⟩
  have e : ((10 : Int) ^ (27 : Int).toNat) = 1000000000000000000000000000 := by decide
  show Q (.int ((10 : Int) ^ (27 : Int).toNat)) H
  rw [e]; exact q
theorem g_pow10_28 (q : Q (.int 10000000000000000000000000000) H) : rI CPow (fun i j => .int (i ^ j.toNat)) (.int 10) (.int 28) H Q := by
  refine ⟨10, 28, rfl, rfl, ⟨by decide, by decide, by decide⟩, ?_⟩
  have e : ((10 : Int) ^ (28 : Int).toNat) = 10000000000000000000000000000 := by decide
  show Q (.int ((10 : Int) ^ (28 : Int).toNat)) H
  rw [e]; exact q
theorem g_pow10_29 (q : Q (.int 100000000000000000000000000000) H) : rI CPow (fun i j => .int (i ^ j.toNat)) (.int 10) (.int 29) H Q := by
  refine ⟨10, 29, rfl, rfl, ⟨by decide, by decide, by decide⟩, ?_⟩
  have e : ((10 : Int) ^ (29 : Int).toNat) = 100000000000000000000000000000 := by decide
  show Q (.int ((10 : Int) ^ (29 : Int).toNat)) H
  rw [e]; exact q
theorem g_pow10_30 (q : Q (.int 1000000000000000000000000000000) H) : rI CPow (fun i j => .int (i ^ j.toNat)) (.int 10) (.int 30) H Q := by
  refine ⟨10, 30, rfl, rfl, ⟨by decide, by decide, by decide⟩, ?_⟩
  have e : ((10 : Int) ^ (30 : Int).toNat) = 1000000000000000000000000000000 := by decide
  show Q (.int ((10 : Int) ^ (30 : Int).toNat)) H
  rw [e]; exact q
theorem g_int (q : Q (.int i) H) : rInt1 [.int i] H Q := .inl ⟨i, rfl, q⟩
theorem g_intb {k : Bool} (q : Q (.int (if k then 1 else 0)) H) : rInt1 [.bl k] H Q := .inr ⟨k, rfl, q⟩
theorem g_abs (q : Q (.int (if i < 0 then -i else i)) H) : rAbs1 [.int i] H Q := ⟨i, rfl, q⟩
theorem g_max (q : Q (.int (if j > i then j else i)) H) : rMaxI [.int i, .int j] H Q := ⟨i, j, rfl, q⟩
theorem g_min (q : Q (.int (if j < i then j else i)) H) : rMinI [.int i, .int j] H Q := ⟨i, j, rfl, q⟩
theorem g_lenL (h : SqL K H p xs) (q : Q (.int xs.length) H) : rLenQ K [.ref p] H Q := ⟨p, xs, rfl, .inl h, q⟩
theorem g_lenT (h : SqT K H p xs) (q : Q (.int xs.length) H) : rLenQ K [.ref p] H Q := ⟨p, xs, rfl, .inr h, q⟩
theorem g_lenl (h : H p = some (.lst xs)) (q : Q (.int xs.length) H) : rLenQ K [.ref p] H Q := ⟨p, xs, rfl, .inl (SqL.of h), q⟩
theorem g_lent (h : H p = some (.tup xs)) (q : Q (.int xs.length) H) : rLenQ K [.ref p] H Q := ⟨p, xs, rfl, .inr (.inl (.inl h)), q⟩
end
theorem g_yes {A B : Prop} {k : Bool} (h : k = true) (a : A) : if k = true then A else B := by rw [if_pos h]; exact a
theorem g_no {A B : Prop} {k : Bool} (h : k = false) (b : B) : if k = true then A else B := by rw [h]; exact iteF b
theorem g_two {A B : Prop} {k : Bool} (a : k = true → A) (b : k = false → B) : if k = true then A else B := by
  cases k with
  | true => exact iteT (a rfl)
  | false => exact iteF (b rfl)

/-! a def by its promise, its parameters all given -/
structure Dn (P : Program) (w : World) (K : PySem.W.Frag) (mg : Str → Option Value) (base : Heap) (k : Nat) (a : Addr) (ps : List Str) (sp : Sp) : Prop where
  ex : ∃ fd, FnOk P w K mg base (L2.CX P w) k a fd ps sp ∧ Binds K fd ps []
  kp : PySem.W.keepIn K (.ref a) = true
section
variable {X : Cx} {k : Nat} {f C : Addr} {ps : List Str} {sp : Sp} {E : XK} {x m : Str} {p pos apos : Pos} {e o : Expr} {es : List Expr} {ta : TE} {t : TA}
theorem pe_dn (D : Dn X.prog X.w X.K X.mg X.base k f ps sp) (hr : Room k X.A) (hg : Gl X x) (hm : X.mg x = some (.ref f)) (hx : Passes (L2.CX X.prog X.w) X E) (ha : PA X (e :: es) t) (hdb : (x == ("__debug__" : Str)) = false := by decide)
    (he : starEach (e :: es) X.env = (false, eval e X.env) :: starEach es X.env := by rfl) (hpl : (backTo pos (starEach es X.env)).any (·.1) = false := by rfl) : PE X (.Call (.Name x p) (e :: es) [] pos) (tCall sp [] E t) := by
  obtain ⟨fd, F, b⟩ := D.ex
  exact pe_call F hr hg hm D.kp b .nil hx ha hdb he hpl
/-- a class made by its __init__ -/
structure Mn (P : Program) (w : World) (K : PySem.W.Frag) (mg : Str → Option Value) (base : Heap) (k : Nat) (C : Addr) (ps : List Str) (sp : Sp) : Prop where
  ex : ∃ f fd, FnOk P w K mg base (L2.CX P w) k f fd ps sp ∧ Binds K fd ps [] ∧ Mk K C f
theorem pe_mn (D : Mn X.prog X.w X.K X.mg X.base k C ps sp) (hr : Room (k + 1) X.A) (hg : Gl X x) (hm : X.mg x = some (.ref C)) (hx : Passes (L2.CX X.prog X.w) X E) (ha : PA X (e :: es) t) (hdb : (x == ("__debug__" : Str)) = false := by decide)
    (he : starEach (e :: es) X.env = (false, eval e X.env) :: starEach es X.env := by rfl) (hpl : (backTo pos (starEach es X.env)).any (·.1) = false := by rfl) : PE X (.Call (.Name x p) (e :: es) [] pos) (tMake C sp [] E t) := by
  obtain ⟨f, fd, F, b, M⟩ := D.ex
  exact pe_make M F hr hg hm b .nil hx ha hdb he hpl
end
end AF
/-! operators, properties and methods of own classes -/
namespace AF
open PySem PySem.Spec PyProof.Rows L2
open PySem.W (Looks InstAt findIn isFn subIn selfFirst notFirst looks_findIn looks_subIn)

/-- of what type a value is -/
inductive Kd (H : Hp) : V → Value → Prop where
  | non : Kd H .non (.type "NoneType")
  | bl (b : Bool) : Kd H (.bl b) (.type "bool")
  | int (i : Int) : Kd H (.int i) (.type "int")
  | str (z : Str) : Kd H (.str z) (.type "str")
  | flt (b : UInt64) : Kd H (.flt b) (.type "float")
  | ins {a C dx : Addr} {fs : List (Str × V)} (e : H a = some (.ins C dx fs)) : Kd H (.ref a) (.ref C)
  | lst {a : Addr} {xs : List V} (e : H a = some (.lst xs)) : Kd H (.ref a) (.type "list")
  | tup {a : Addr} {xs : List V} (e : H a = some (.tup xs)) : Kd H (.ref a) (.type "tuple")
  | dK {a : Addr} {kvs : List (Key × V)} (e : H a = some (.dK kvs)) : Kd H (.ref a) (.type "dict")

section
variable {X : Cx} {pins : List (Addr × Obj)} {σ : L2.St} {H : Hp} {s : Shared} {M : Model}
theorem Kd.looks {y : V} {u t : Value} (I : Inv X pins σ H s) (ry : RelV y u) (k : Kd H y t) : Looks M s.heap (typeOf u) t := by
  cases k with
  | non => cases ry; exact .now
  | bl b => cases ry; exact .now
  | int i => obtain ⟨_, rfl⟩ := ry; exact .now
  | str z => obtain ⟨_, rfl⟩ := ry; exact .now
  | flt b => obtain ⟨_, rfl⟩ := ry; exact .now
  | ins e =>
    cases ry
    obtain ⟨mA, J, _⟩ := ins_get I.hok e
    obtain ⟨od, J, _⟩ := J.look
    exact J.type
  | @lst a xs e =>
    cases ry
    obtain ⟨_, _, n, _, h1⟩ := (show ObjOk X.prog X.w H s.heap a (.lst xs) from I.hok a _ e)
    exact (Looks.ld (part := none) h1).andThen .now
  | @tup a xs e =>
    cases ry
    obtain ⟨_, _, _, o, h1, h2, _⟩ := (show ObjOk X.prog X.w H s.heap a (.tup xs) from I.hok a _ e)
    have := (Looks.ld (M := M) (part := none) h1).andThen (f := fun o => pure o.cls) .now
    rw [h2] at this
    exact this
  | @dK a kvs e =>
    cases ry
    obtain ⟨_, _, vs, _, o, es, ep, h1, h2, _⟩ := (show ObjOk X.prog X.w H s.heap a (.dK kvs) from I.hok a _ e)
    have := (Looks.ld (M := M) (part := none) h1).andThen (f := fun o => pure o.cls) .now
    rw [h2.1] at this
    exact this
end

/-! binary operators of an own class, on the left -/
structure Bin (K : PySem.W.Frag) (op : Operator) (C f : Addr) : Prop where
  hc : selfFirst K C = true
  hs : findIn K (.ref C) (PySem.dunder op.info.2) = some (some (.ref f))
  hf : isFn K (.ref f) = true
  hr : ∃ rc, findIn K (.ref C) (dunderR op.info.2) = some rc ∧ (rc = none ∨ ∃ g : Addr, rc = some (.ref g))
/-- a built-in type beside it -/
structure BinT (K : PySem.W.Frag) (op : Operator) (C : Addr) (T : String) : Prop where
  h1 : ∃ fo, findIn K (.type T) (PySem.dunder op.info.2) = some fo
  h2 : ∃ ro, findIn K (.type T) (dunderR op.info.2) = some ro
  hs : subIn K (.type T) (.ref C) = some false
def Beside (K : PySem.W.Frag) (op : Operator) (C : Addr) (t : Value) : Prop := t = .ref C ∨ ∃ T, t = .type T ∧ BinT K op C T
section
variable {prog : Program} {w : World} {A : Around} {E : Value → Shared → Prop} {s : Shared} {K : PySem.W.Frag} {x C f : Addr} {ox : Obj} {od : Option Obj}
theorem bin_left {op : Operator} {b t : Value} {Q : Value → Shared → Prop} (X : K.In s.heap) (I : InstAt s.heap x ox C od) (hb : Looks (model prog w) s.heap (typeOf b) t) (B : Bin K op C f) (hT : Beside K op C t)
    (h : wpAny (model prog w) A (call (.ref f) [.ref x, b]) (PySem.W.CmpBack Q) E s) : wpAny (model prog w) A (binaryOp op (.ref x) b) Q E s := by
  obtain ⟨cd, rest, hcd, hm⟩ := PySem.W.ksp_first B.hc
  obtain ⟨rc, hrc, hrp⟩ := B.hr
  have hs := B.hs
  rcases hi : op.info with ⟨sym, nm⟩
  rw [hi] at hs hrc
  dsimp only at hs hrc
  have one := PySem.W.ksp_try X I hs B.hf h
  rcases hT with e | ⟨T, e, BT⟩
  · subst e
    obtain ⟨hh, g, d, tt, os⟩ := s
    have la : Looks (model prog w) hh (typeOf (.ref x)) (.ref C) := I.type
    have lf : Looks (model prog w) hh (fillsNumberSlot (.ref C) nm) true := PySem.W.fills_K X hcd hm hs
    simp only [binaryOp, hi]
    refine wpAny_holding (wpAny_bind ?_)
    unfold binaryOp1
    refine wpAny_bind (la.at (wpAny_bind (hb.at (wpAny_bind (lf.at ?_)))))
    simp only [beq_self_eq_true, if_true]
    ksp_lk
    refine wpAny_mono one (fun r s' hr' => ?_) fun _ _ e => e
    obtain ⟨v, rfl, hq⟩ := hr'
    ksp_lk
    exact hq
  · subst e
    obtain ⟨fo, h1⟩ := BT.h1
    obtain ⟨ro, h2⟩ := BT.h2
    have hsub := BT.hs
    rw [hi] at h1 h2
    dsimp only at h1 h2
    obtain ⟨hh, g, d, tt, os⟩ := s
    have la : Looks (model prog w) hh (typeOf (.ref x)) (.ref C) := I.type
    have lf : Looks (model prog w) hh (fillsNumberSlot (.ref C) nm) true := PySem.W.fills_K X hcd hm hs
    have lg : Looks (model prog w) hh (fillsNumberSlot (.type T) nm) ((fo.isSome && !isSeqSlot fo) || (ro.isSome && !isSeqSlot ro)) := PySem.W.ksp_fillsT X h1 h2
    have lsub : Looks (model prog w) hh (isSubtype (.type T) (.ref C)) false := looks_subIn X hsub
    have lpy : Looks (model prog w) hh (numberSlotInPython (.ref C) nm) true := PySem.W.ksp_inPy X hs hrc hrp
    have lpt : Looks (model prog w) hh (numberSlotInPython (.type T) nm) false := Looks.of_pure rfl
    have ltk : Looks (model prog w) hh (typeLookup (.type T) (dunderR nm)) ro := looks_findIn X h2
    generalize ((fo.isSome && !isSeqSlot fo) || (ro.isSome && !isSeqSlot ro)) = right at lg
    have hne : (Value.ref C == Value.type T) = false := Bool.eq_false_iff.mpr fun q => by cases beq_iff_eq.mp q
    simp only [binaryOp, hi]
    refine wpAny_holding (wpAny_bind ?_)
    unfold binaryOp1
    refine wpAny_bind (la.at (wpAny_bind (hb.at (wpAny_bind (lf.at ?_)))))
    simp only [hne, Bool.false_eq_true, if_false]
    cases right with
    | false =>
      ksp_lk
      refine wpAny_mono one (fun r s' hr' => ?_) fun _ _ e => e
      obtain ⟨v, rfl, hq⟩ := hr'
      ksp_lk
      exact hq
    | true =>
      ksp_lk
      refine wpAny_mono one (fun r s' hr' => ?_) fun _ _ e => e
      obtain ⟨v, rfl, hq⟩ := hr'
      ksp_lk
      exact hq
end

/-! the readings -/
section
variable {X : Cx} {pins : List (Addr × Obj)} {σ : L2.St} {H : Hp} {s : Shared} {k : Nat} {f C : Addr} {ps : List Str} {sp : Sp} {E : XK} {Q : VK}
/-- behind a call of an own operator's def -/
theorem cmpBack_of {u : Value} {s' : Shared} (h : EP X pins σ Q u s') : PySem.W.CmpBack (EP X pins σ Q) u s' := by
  obtain ⟨v, H', I, r, q⟩ := id h
  cases v with
  | non => cases r; exact h
  | bl b => cases r; exact h
  | int i => obtain ⟨_, rfl⟩ := r; exact h
  | str z => obtain ⟨_, rfl⟩ := r; exact h
  | byt b => obtain ⟨_, rfl⟩ := r; exact h
  | flt b => obtain ⟨_, rfl⟩ := r; exact h
  | ref a => cases r; exact h
  | ty n => cases r; exact h
def rOwn (K : PySem.W.Frag) (op : Operator) (C : Addr) (sp : Sp) (E : XK) : R2 := fun x y H Q => ∃ a dx fs t, x = .ref a ∧ H a = some (.ins C dx fs) ∧ Kd H y t ∧ Beside K op C t ∧ sp [x, y] H Q E
theorem op_own {op : Operator} (D : Dn X.prog X.w X.K X.mg X.base k f ps sp) (B : Bin X.K op C f) (hr : Room k X.A) (hx : Passes (L2.CX X.prog X.w) X E) : OpR X (binaryOp op) (rOwn X.K op C sp E) := by
  intro pins s σ H x y v u Q I rx ry h
  obtain ⟨a, dx, fs, t, rfl, ha, kd, bs, q⟩ := h
  cases rx
  obtain ⟨fd, F, b⟩ := D.ex
  obtain ⟨mA, J, _⟩ := ins_get I.hok ha
  obtain ⟨od, J, _⟩ := J.look
  refine bin_left I.kIn J (kd.looks I ry) B bs ?_
  exact thn (run_fn (us := [.ref a, u]) (vs := [.ref a, y]) F hr b .nil hx I (.cons rfl (.cons ry .nil)) q) fun v s' z => cmpBack_of z
/-- a comparison by an own def -/
structure Cmp (K : PySem.W.Frag) (op : CmpOp) (C f : Addr) : Prop where
  hs : findIn K (.ref C) (cmpInfo op).2.1 = some (some (.ref f))
  hf : isFn K (.ref f) = true
def rCmp (K : PySem.W.Frag) (C : Addr) (sp : Sp) (E : XK) : R2 := fun x y H Q => ∃ a dx fs t, x = .ref a ∧ H a = some (.ins C dx fs) ∧ Kd H y t ∧ notFirst K C t = true ∧ sp [x, y] H Q E
theorem rich_own {op : CmpOp} (D : Dn X.prog X.w X.K X.mg X.base k f ps sp) (B : Cmp X.K op C f) (hr : Room k X.A) (hx : Passes (L2.CX X.prog X.w) X E) : OpR X (richCompare op) (rCmp X.K C sp E) := by
  intro pins s σ H x y v u Q I rx ry h
  obtain ⟨a, dx, fs, t, rfl, ha, kd, bs, q⟩ := h
  cases rx
  obtain ⟨fd, F, b⟩ := D.ex
  obtain ⟨mA, J, _⟩ := ins_get I.hok ha
  obtain ⟨od, J, _⟩ := J.look
  obtain ⟨m, hF⟩ := I.fr
  refine PySem.W.cmp_K (op := op) hr.units0 hF I.ok.mod.kin J (kd.looks I ry) bs B.hs B.hf ?_
  exact thn (run_fn (us := [.ref a, u]) (vs := [.ref a, y]) F hr b .nil hx I (.cons rfl (.cons ry .nil)) q) fun v s' z => cmpBack_of z
theorem cmp_lt (D : Dn X.prog X.w X.K X.mg X.base k f ps sp) (B : Cmp X.K .Lt C f) (hr : Room k X.A) (hx : Passes (L2.CX X.prog X.w) X E) : OpR X (compareOp .Lt) (rCmp X.K C sp E) := rich_own D B hr hx
theorem cmp_le (D : Dn X.prog X.w X.K X.mg X.base k f ps sp) (B : Cmp X.K .LtE C f) (hr : Room k X.A) (hx : Passes (L2.CX X.prog X.w) X E) : OpR X (compareOp .LtE) (rCmp X.K C sp E) := rich_own D B hr hx
theorem cmp_gt (D : Dn X.prog X.w X.K X.mg X.base k f ps sp) (B : Cmp X.K .Gt C f) (hr : Room k X.A) (hx : Passes (L2.CX X.prog X.w) X E) : OpR X (compareOp .Gt) (rCmp X.K C sp E) := rich_own D B hr hx
theorem cmp_ge (D : Dn X.prog X.w X.K X.mg X.base k f ps sp) (B : Cmp X.K .GtE C f) (hr : Room k X.A) (hx : Passes (L2.CX X.prog X.w) X E) : OpR X (compareOp .GtE) (rCmp X.K C sp E) := rich_own D B hr hx
theorem cmp_eq (D : Dn X.prog X.w X.K X.mg X.base k f ps sp) (B : Cmp X.K .Eq C f) (hr : Room k X.A) (hx : Passes (L2.CX X.prog X.w) X E) : OpR X (compareOp .Eq) (rCmp X.K C sp E) := rich_own D B hr hx
end

/-! properties and methods -/
section
variable {X : Cx} {k : Nat} {f C : Addr} {ps : List Str} {sp : Sp} {E : XK} {x m : Str} {p pos apos : Pos} {e o : Expr} {es : List Expr} {ta : TE} {t : TA}
structure Rn (P : Program) (w : World) (K : PySem.W.Frag) (mg : Str → Option Value) (base : Heap) (k : Nat) (C : Addr) (m : Str) (sp : Sp) : Prop where
  ex : ∃ p g fd ps, PropOf K C m p g ∧ FnOk P w K mg base (L2.CX P w) k g fd ps sp ∧ Binds K fd ps []
  cl : Cls K C
theorem pe_pr (D : Rn X.prog X.w X.K X.mg X.base k C m sp) (hr : Room (k + 1) X.A) (he : PE X e ta) (hab : attributeBase e m X.env (eval e X.env) = eval e X.env := by rfl) : PE X (.Attribute e m pos) (tProp C sp [] E0 ta) := by
  obtain ⟨p, g, fd, ps, hp, F, b⟩ := D.ex
  exact pe_prop he D.cl hp F hr b .nil passL hab
structure Hn (P : Program) (w : World) (K : PySem.W.Frag) (mg : Str → Option Value) (base : Heap) (k : Nat) (C : Addr) (m : Str) (sp : Sp) : Prop where
  ex : ∃ f fd ps, FnOk P w K mg base (L2.CX P w) k f fd ps sp ∧ Binds K fd ps [] ∧ Meth K C m f
  cl : Cls K C
theorem pe_dm {pl : Sem Bool} (D : Hn X.prog X.w X.K X.mg X.base k C m sp) (hr : Room k X.A) (hx : Passes (L2.CX X.prog X.w) X E) (he : PE X o ta) (ha : PA X (e :: es) t)
    (hst : starEach (e :: es) X.env = (false, eval e X.env) :: starEach es X.env := by rfl) (hpl : (backTo pos (starEach es X.env)).any (·.1) = false := by rfl)
    (ht : eval (.Call (.Attribute o m apos) (e :: es) [] pos) X.env = (do
      let ov ← eval o X.env
      standAt apos.atName
      let (f, first) ← holding [ov] (getMethod ov m pl)
      callWith pos f first (backTo pos (starEach (e :: es) X.env)) (backToKw pos (keywordEach [] X.env))) := by rfl) :
    PE X (.Call (.Attribute o m apos) (e :: es) [] pos) (tMeth C m sp [] E ta t) := by
  obtain ⟨f, fd, ps, F, b, M⟩ := D.ex
  exact pe_meth he D.cl M F hr b .nil hx ha hst hpl ht
theorem pe_dm0 {pl : Sem Bool} (D : Hn X.prog X.w X.K X.mg X.base k C m sp) (hr : Room k X.A) (hx : Passes (L2.CX X.prog X.w) X E) (he : PE X o ta)
    (ht : eval (.Call (.Attribute o m apos) [] [] pos) X.env = (do
      let ov ← eval o X.env
      standAt apos.atName
      let (f, first) ← holding [ov] (getMethod ov m pl)
      callWith pos f first (backTo pos (starEach [] X.env)) (backToKw pos (keywordEach [] X.env))) := by rfl) :
    PE X (.Call (.Attribute o m apos) [] [] pos) (tMeth C m sp [] E ta tNil) := by
  obtain ⟨f, fd, ps, F, b, M⟩ := D.ex
  exact pe_meth0 he D.cl M F hr b .nil hx ht
end

/-! steps -/
def kProp (C : Addr) (sp : Sp) (E : XK) (Q : VK) (x : V) (H : Hp) : Prop := ∃ a dx fs, x = .ref a ∧ H a = some (.ins C dx fs) ∧ sp [x] H Q E
def kMeth (C : Addr) (m : Str) (sp : Sp) (E : XK) (t : TA) (σ : L2.St) (Q : VK) (x : V) (H : Hp) : Prop := ∃ a dx fs, x = .ref a ∧ H a = some (.ins C dx fs) ∧ fs.lookup m = none ∧ t σ H fun vs H2 => sp (x :: vs) H2 Q E
def kMake (C : Addr) (sp : Sp) (E : XK) (Q : VK) (vs : List V) (H : Hp) : Prop := ∀ x dx, H x = none → H dx = none → dx ≠ x → sp (.ref x :: vs) (upd (upd H dx (.own x)) x (.ins C dx [])) (fun v H2 => v = .non ∧ Q (.ref x) H2) E
section
variable {σ : L2.St} {H : Hp} {Q : VK} {ta : TE} {tr : TA} {C a dx : Addr} {fs : List (Str × V)} {m : Str} {sp : Sp} {E : XK} {y : V} {K : PySem.W.Frag} {op : Operator} {t : Value}
theorem g_prop (h : ta σ H (kProp C sp E Q)) : tProp C sp [] E ta σ H Q := by
  have e : (fun (x : V) (H1 : Hp) => ∃ a dx fs, x = .ref a ∧ H1 a = some (.ins C dx fs) ∧ sp (.ref a :: []) H1 Q E) = kProp C sp E Q := by
    funext x H1
    refine propext ⟨fun ⟨a, dx, fs, e, h, q⟩ => ⟨a, dx, fs, e, h, by rw [e]; exact q⟩, fun ⟨a, dx, fs, e, h, q⟩ => ⟨a, dx, fs, e, h, by rw [← e]; exact q⟩⟩
  show ta σ H _
  rw [e]; exact h
theorem g_kprop (ho : H a = some (.ins C dx fs)) (q : sp [.ref a] H Q E) : kProp C sp E Q (.ref a) H := ⟨a, dx, fs, rfl, ho, q⟩
theorem g_meth (h : ta σ H (kMeth C m sp E tr σ Q)) : tMeth C m sp [] E ta tr σ H Q := by
  have e : (fun (x : V) (H1 : Hp) => ∃ a dx fs, x = .ref a ∧ H1 a = some (.ins C dx fs) ∧ fs.lookup m = none ∧ tr σ H1 fun vs H2 => sp (x :: (vs ++ [])) H2 Q E) = kMeth C m sp E tr σ Q := by
    funext x H1
    simp only [List.append_nil]
    rfl
  show ta σ H _
  rw [e]; exact h
theorem g_kmeth (ho : H a = some (.ins C dx fs)) (hl : fs.lookup m = none) (q : tr σ H fun vs H2 => sp (.ref a :: vs) H2 Q E) : kMeth C m sp E tr σ Q (.ref a) H := ⟨a, dx, fs, rfl, ho, hl, q⟩
theorem g_make (h : tr σ H (kMake C sp E Q)) : tMake C sp [] E tr σ H Q := by
  have e : (fun (vs : List V) (H1 : Hp) => ∀ x dx, H1 x = none → H1 dx = none → dx ≠ x → sp (.ref x :: (vs ++ [])) (upd (upd H1 dx (.own x)) x (.ins C dx [])) (fun v H2 => v = .non ∧ Q (.ref x) H2) E) = kMake C sp E Q := by
    funext vs H1
    simp only [List.append_nil]
    rfl
  show tr σ H _
  rw [e]; exact h
theorem g_own (ho : H a = some (.ins C dx fs)) (kd : Kd H y t) (b : Beside K op C t) (q : sp [.ref a, y] H Q E) : rOwn K op C sp E (.ref a) y H Q := ⟨a, dx, fs, t, rfl, ho, kd, b, q⟩
theorem g_cmp (ho : H a = some (.ins C dx fs)) (kd : Kd H y t) (b : notFirst K C t = true) (q : sp [.ref a, y] H Q E) : rCmp K C sp E (.ref a) y H Q := ⟨a, dx, fs, t, rfl, ho, kd, b, q⟩
end
end AF
/-! an own operator on the right of an int; != by an own == -/
namespace AF
open PySem PySem.Spec PyProof.Rows L2
open PySem.W (Looks InstAt findIn isFn subIn selfFirst notFirst looks_findIn looks_subIn)

def Declines (y : Addr) : PySem.Spec := fun _ R s => (∃ C dx, s.heap.get? y = some (PySem.W.instObj C dx)) ∧ R (.ok (.ret .notImplemented)) s
theorem add_declines (i : Int) (t : Tok) (y : Addr) : Meets (Builtin.«int.__add__» ⟨[.int i t, .ref y], []⟩) (Declines y) :=
  .of_wp fun prog w A R s h => by
    obtain ⟨hp, g, d, tk, os⟩ := s
    obtain ⟨⟨C, dx, hl⟩, h⟩ := h
    unfold PySem.W.instObj at hl
    wp_walk using AutoSeq1.wpAny_loadPart' hl
    exact ⟨_, rfl, h⟩
theorem sub_declines (i : Int) (t : Tok) (y : Addr) : Meets (Builtin.«int.__sub__» ⟨[.int i t, .ref y], []⟩) (Declines y) :=
  .of_wp fun prog w A R s h => by
    obtain ⟨hp, g, d, tk, os⟩ := s
    obtain ⟨⟨C, dx, hl⟩, h⟩ := h
    unfold PySem.W.instObj at hl
    wp_walk using AutoSeq1.wpAny_loadPart' hl
    exact ⟨_, rfl, h⟩
structure BinR (K : PySem.W.Frag) (op : Operator) (C f : Addr) : Prop where
  hc : selfFirst K C = true
  hs : ∃ g : Addr, findIn K (.ref C) (PySem.dunder op.info.2) = some (some (.ref g))
  hr : findIn K (.ref C) (dunderR op.info.2) = some (some (.ref f))
  hf : isFn K (.ref f) = true
  hb : subIn K (.ref C) (.type "int") = some false
section
variable {prog : Program} {w : World} {A : Around} {E : Value → Shared → Prop} {s : Shared} {K : PySem.W.Frag} {y C f : Addr} {oy : Obj} {od : Option Obj}
/-- an int's own method declines, the right one's is taken -/
theorem bin_right {op : Operator} {i : Int} {t : Tok} {id : String} {Bl : Builtin} {Q : Value → Shared → Prop} (X : K.In s.heap) (I : InstAt s.heap y oy C od) (B : BinR K op C f) (sl : Slot "int" (PySem.dunder op.info.2) id) (fi : fillsNumberSlot (.type "int") op.info.2 = pure true)
    (en : entryFor table id = some Bl) (ar : argsOk id ⟨[.int i t, .ref y], []⟩) (de : Meets (Bl ⟨[.int i t, .ref y], []⟩) (Declines y)) (hy : ∃ C dx, s.heap.get? y = some (PySem.W.instObj C dx))
    (h : wpAny (model prog w) A (call (.ref f) [.ref y, .int i t]) (PySem.W.CmpBack Q) E s) : wpAny (model prog w) A (binaryOp op (.int i t) (.ref y)) Q E s := by
  obtain ⟨cd, rest, hcd, hm⟩ := PySem.W.ksp_first B.hc
  obtain ⟨g', hs⟩ := B.hs
  have hr := B.hr
  rcases hi : op.info with ⟨sym, nm⟩
  rw [hi] at hs hr sl fi
  dsimp only at hs hr sl fi
  have one := PySem.W.ksp_try X I hr B.hf h
  have none1 : wpAny (model prog w) A (tryMethod (.int i t) (PySem.dunder nm) (.ref y)) (fun r s' => r = none ∧ s' = s) E s :=
    wpAny_tryMethod_declines (typeIs_int _ _ _) sl (call_meets sl (typeIs_int _ _ _) en ar de ⟨hy, rfl, rfl, rfl⟩)
  obtain ⟨hh, g, d, tt, os⟩ := s
  have la : Looks (model prog w) hh (typeOf (.int i t)) (.type "int") := Looks.of_pure rfl
  have lb : Looks (model prog w) hh (typeOf (.ref y)) (.ref C) := I.type
  have lf : Looks (model prog w) hh (fillsNumberSlot (.type "int") nm) true := Looks.of_pure fi
  have lg : Looks (model prog w) hh (fillsNumberSlot (.ref C) nm) true := PySem.W.fills_K X hcd hm hs
  have lsub : Looks (model prog w) hh (isSubtype (.ref C) (.type "int")) false := looks_subIn X B.hb
  have lpt : Looks (model prog w) hh (numberSlotInPython (.type "int") nm) false := Looks.of_pure rfl
  have hne : (Value.type "int" == Value.ref C) = false := Bool.eq_false_iff.mpr fun q => by cases beq_iff_eq.mp q
  simp only [binaryOp, hi]
  refine wpAny_holding (wpAny_bind ?_)
  unfold binaryOp1
  refine wpAny_bind (la.at (wpAny_bind (lb.at (wpAny_bind (lf.at ?_)))))
  simp only [hne, Bool.false_eq_true, if_false]
  ksp_lk
  refine wpAny_mono none1 (fun r s' hr' => ?_) fun _ _ e => e
  obtain ⟨rfl, rfl⟩ := hr'
  ksp_lk
  refine wpAny_mono one (fun r s' hr' => ?_) fun _ _ e => e
  obtain ⟨v, rfl, hq⟩ := hr'
  ksp_lk
  exact hq
end

/-! != by an own == -/
structure NeC (K : PySem.W.Frag) (C f : Addr) : Prop where
  hn : findIn K (.ref C) "__ne__" = some (some (.builtin "object.__ne__"))
  hs : findIn K (.ref C) "__eq__" = some (some (.ref f))
  hf : isFn K (.ref f) = true
  ho : PySem.W.mroIn K C (.type "object") = some true
theorem slot_objne : Slot "object" "__ne__" "object.__ne__" :=
  .of (owner := "object") (n := "__ne__") (by rw [typeLookup_type, builtinLookup_eq_fast]; kernel_rfl) (by decide +kernel) (by decide +kernel) (by decide +kernel) (.inl (by decide +kernel)) (by rw [isSubtype_type]; kernel_rfl)
section
variable {prog : Program} {w : World} {A : Around} {E : Value → Shared → Prop} {K : PySem.W.Frag} {x C f : Addr} {ox : Obj} {od : Option Obj}
theorem objne_body {b : Value} {hh : Heap} {g : Array GenState} {d : Drawn} {tt : Nat} {os : OsState} {Q : Fin → Shared → Prop} (hu : A.units < cLine)
    (h : wpAny (model prog w) A (callSpecialIfBound? (.ref x) "__eq__" [b]) (fun r s' => ∃ k, r = some (.bool k) ∧ Q (.done (.ret (.bool (!k)))) s') E ⟨hh, g, d, tt, os⟩) :
    wpAny (model prog w) A (Builtin.«object.__ne__» ⟨[.ref x, b], []⟩) Q E ⟨hh, g, d, tt, os⟩ := by
  unfold Builtin.«object.__ne__»
  repeat (first | with_reducible refine wpAny_cRoomFor hu ?_ | (with_reducible refine wpAny_mono h (fun r s' hr => ?_) fun _ _ e => e) | wp_step)
  obtain ⟨k, rfl, q⟩ := hr
  obtain ⟨hp, g, d, tk, os⟩ := s'
  repeat wp_step
  exact q
theorem rich_ne {b t : Value} {hh : Heap} {g : Array GenState} {d : Drawn} {tt : Nat} {os : OsState} {Q : Value → Shared → Prop} (hu : A.units + 1 < cLine) (X : K.In hh) (I : InstAt hh x ox C od) (hb : Looks (model prog w) hh (typeOf b) t)
    (hn : notFirst K C t = true) (B : NeC K C f) (h : wpAny (model prog w) A.in1 (call (.ref f) [.ref x, b]) (fun v s' => ∃ k, v = .bool k ∧ Q (.bool (!k)) s') E ⟨hh, g, d, tt, os⟩) :
    wpAny (model prog w) A (richCompare .NotEq (.ref x) b) Q E ⟨hh, g, d, tt, os⟩ := by
  have hu0 : A.units < cLine := Nat.lt_of_succ_lt hu
  have call2 : wpAny (model prog w) A (call (.builtin "object.__ne__") [.ref x, b]) (fun v s' => v ≠ .notImplemented ∧ Q v s') E ⟨hh, g, d, tt, os⟩ := by
    refine wpAny_call (codeAny_call_builtin slot_objne.plain PySem.F.cmpEntry_ne (@PySem.W.check_slot (model prog w) _ _ ⟨hh, g, d, tt, os⟩ "object.__ne__" "object" "__ne__" (.ref x) [b] [] _ PySem.F.cmpKind_ne PySem.F.cmpSplit_ne
      (I.type.andThen (PySem.W.looks_mroIn X B.ho)) (PySem.F.cmpArgs_ne _ _) ?_))
    refine objne_body (show A.in1.units < cLine from hu) (PySem.W.ifBound_K X I B.hs B.hf (wpAny_mono h (fun v s' z => ?_) fun _ _ e => e))
    obtain ⟨k, rfl, q⟩ := z
    exact ⟨k, rfl, (fun z => nomatch z), q⟩
  have one : wpAny (model prog w) A (tryCompare (.ref x) "__ne__" b) (fun r s' => ∃ v, r = some v ∧ Q v s') E ⟨hh, g, d, tt, os⟩ := by
    have lt : Looks (model prog w) hh (typeLookup (.ref C) "__ne__") (some (.builtin "object.__ne__")) := looks_findIn X B.hn
    have fin : wpAny (model prog w) A (call (.builtin "object.__ne__") ([.ref x] ++ [b]) >>= fun v => pure (some v)) (fun r s' => ∃ v, r = some v ∧ v ≠ .notImplemented ∧ Q v s') E ⟨hh, g, d, tt, os⟩ :=
      wpAny_bind (wpAny_mono call2 (fun v s' h' => wpAny_pure ⟨v, rfl, h'⟩) fun _ _ h' => h')
    have sp : wpAny (model prog w) A (callSpecialIfBound? (.ref x) "__ne__" [b]) (fun r s' => ∃ v, r = some v ∧ v ≠ .notImplemented ∧ Q v s') E ⟨hh, g, d, tt, os⟩ := by
      simp only [callSpecialIfBound?, bindSpecialIfBound?]
      refine wpAny_holding (wpAny_bind (wpAny_bind (wpAny_bind (I.type.here (lt.here ?_)))))
      simp only [slot_objne.bind]
      refine wpAny_bind (wpAny_askSetting (wpAny_ite ?_))
      split
      · exact wpAny_bind (wpAny_pure (wpAny_pure fin))
      · exact wpAny_tryCatch (wpAny_bind (wpAny_pure (wpAny_pure fin)))
    unfold tryCompare
    refine wpAny_bind (wpAny_mono sp (fun r s' z => ?_) fun _ _ e => e)
    obtain ⟨v, rfl, hv, q⟩ := z
    cases v <;> first | exact absurd rfl hv | exact wpAny_pure ⟨_, rfl, q⟩
  unfold richCompare
  simp only [oneThing_ref, cmpInfo_NotEq]
  refine wpAny_holding (wpAny_bind (wpAny_cRoomFor hu0 ?_))
  refine wpAny_bind (I.type.here (wpAny_bind (hb.here ?_)))
  split
  · rename_i q
    have e : subIn K t (.ref C) = some false := by
      rcases Bool.or_eq_true_iff.mp hn with e | e
      · rw [beq_iff_eq.mp e] at q; simp at q
      · exact beq_iff_eq.mp e
    refine wpAny_bind ((looks_subIn X e).here ?_)
    simp only [Bool.false_eq_true, if_false]
    refine wpAny_bind (wpAny_mono one (fun r s' z => ?_) fun _ _ e => e)
    obtain ⟨v, rfl, hq⟩ := z
    exact wpAny_pure hq
  · refine wpAny_bind (wpAny_pure ?_)
    simp only [Bool.false_eq_true, if_false]
    refine wpAny_bind (wpAny_mono one (fun r s' z => ?_) fun _ _ e => e)
    obtain ⟨v, rfl, hq⟩ := z
    exact wpAny_pure hq
end

section
variable {X : Cx} {pins : List (Addr × Obj)} {σ : L2.St} {H : Hp} {s : Shared} {k : Nat} {f C : Addr} {ps : List Str} {sp : Sp} {E : XK} {Q : VK}
def rRight (C : Addr) (sp : Sp) (E : XK) : R2 := fun x y H Q => ∃ i a dx fs, x = .int i ∧ y = .ref a ∧ H a = some (.ins C dx fs) ∧ sp [y, x] H Q E
theorem op_right_add (D : Dn X.prog X.w X.K X.mg X.base k f ps sp) (B : BinR X.K .Add C f) (hr : Room k X.A) (hx : Passes (L2.CX X.prog X.w) X E) : OpR X (binaryOp .Add) (rRight C sp E) := by
  intro pins s σ H x y v u Q I rx ry h
  obtain ⟨i, a, dx, fs, rfl, rfl, ha, q⟩ := h
  obtain ⟨t, rfl⟩ := rx
  cases ry
  obtain ⟨fd, F, b⟩ := D.ex
  obtain ⟨_, _, _, hy, _⟩ := (show ObjOk X.prog X.w H s.heap a (.ins C dx fs) from I.hok a _ ha)
  obtain ⟨mA, J, _⟩ := ins_get I.hok ha
  obtain ⟨od, J, _⟩ := J.look
  refine bin_right I.kIn J B PySem.F.slot_int_add PySem.F.fills_int_add PySem.F.entry_int_add (PySem.F.args_int_add_2 _ _) (add_declines _ _ _) ⟨_, _, hy⟩ ?_
  exact thn (run_fn (us := [.ref a, .int i t]) (vs := [.ref a, .int i]) F hr b .nil hx I (.cons rfl (.cons ⟨t, rfl⟩ .nil)) q) fun v s' z => cmpBack_of z
theorem op_right_sub (D : Dn X.prog X.w X.K X.mg X.base k f ps sp) (B : BinR X.K .Sub C f) (hr : Room k X.A) (hx : Passes (L2.CX X.prog X.w) X E) : OpR X (binaryOp .Sub) (rRight C sp E) := by
  intro pins s σ H x y v u Q I rx ry h
  obtain ⟨i, a, dx, fs, rfl, rfl, ha, q⟩ := h
  obtain ⟨t, rfl⟩ := rx
  cases ry
  obtain ⟨fd, F, b⟩ := D.ex
  obtain ⟨_, _, _, hy, _⟩ := (show ObjOk X.prog X.w H s.heap a (.ins C dx fs) from I.hok a _ ha)
  obtain ⟨mA, J, _⟩ := ins_get I.hok ha
  obtain ⟨od, J, _⟩ := J.look
  refine bin_right I.kIn J B PySem.F.slot_int_sub PySem.F.fills_int_sub PySem.F.entry_int_sub (PySem.F.args_int_sub_2 _ _) (sub_declines _ _ _) ⟨_, _, hy⟩ ?_
  exact thn (run_fn (us := [.ref a, .int i t]) (vs := [.ref a, .int i]) F hr b .nil hx I (.cons rfl (.cons ⟨t, rfl⟩ .nil)) q) fun v s' z => cmpBack_of z
theorem g_right {i : Int} {a dx : Addr} {fs : List (Str × V)} (ho : H a = some (.ins C dx fs)) (q : sp [.ref a, .int i] H Q E) : rRight C sp E (.int i) (.ref a) H Q := ⟨i, a, dx, fs, rfl, rfl, ho, q⟩
/-- != : the own == gives a truth, its opposite comes out -/
def rNeq (K : PySem.W.Frag) (C : Addr) (sp : Sp) (E : XK) : R2 := fun x y H Q => ∃ a dx fs t, x = .ref a ∧ H a = some (.ins C dx fs) ∧ Kd H y t ∧ notFirst K C t = true ∧ sp [x, y] H (fun v H' => ∃ b, v = .bl b ∧ Q (.bl (!b)) H') E
theorem cmp_neq (D : Dn X.prog X.w X.K X.mg X.base k f ps sp) (B : NeC X.K C f) (hr : Room (k + 1) X.A) (hx : Passes (L2.CX X.prog X.w) X E) : OpR X (compareOp .NotEq) (rNeq X.K C sp E) := by
  intro pins s σ H x y v u Q I rx ry h
  obtain ⟨a, dx, fs, t, rfl, ha, kd, bs, q⟩ := h
  cases rx
  obtain ⟨fd, F, b⟩ := D.ex
  obtain ⟨mA, J, _⟩ := ins_get I.hok ha
  obtain ⟨od, J, _⟩ := J.look
  have lb := kd.looks (M := model X.prog X.w) I ry
  show wpAny (model X.prog X.w) X.A (richCompare .NotEq (.ref a) u) (EP X pins σ Q) X.xe s
  have hl := F.len _ _ _ _ q
  have rv : Vals [V.ref a, y] [Value.ref a, u] := .cons rfl (.cons ry .nil)
  have run : wpAny (model X.prog X.w) X.A.in1 (call (.ref f) [.ref a, u]) (fun v s' => ∃ k, v = .bool k ∧ EP X pins σ Q (.bool (!k)) s') X.xe s := by
    refine wpAny_call (codeAny_mono (F.run X.A.in1 X.stack s H ⟨[.ref a, u], []⟩ [.ref a, u] [.ref a, y] _ E hr.in1 I.env0.in1 (by
      have := b s [.ref a, u] I.kIn (by simpa using hl)
      simpa using this) rv q) fun r s' hq => ?_)
    cases r with
    | error e => exact hx pins σ H s e s' I hq
    | ok fl =>
      cases fl with
      | ret w =>
        obtain ⟨z, H', I', rz, b', ez, q'⟩ := I.after hq
        subst ez
        cases rz
        exact ⟨b', rfl, .bl (!b'), H', I', rfl, q'⟩
      | next => exact False.elim hq
      | brk => exact False.elim hq
      | cont => exact False.elim hq
  obtain ⟨hh, g, d, tt, os⟩ := s
  exact rich_ne (hu_of hr) I.kIn J lb bs B run
theorem g_neq {a dx : Addr} {fs : List (Str × V)} {y : V} {t : Value} {K : PySem.W.Frag} (ho : H a = some (.ins C dx fs)) (kd : Kd H y t) (b : notFirst K C t = true) (q : sp [.ref a, y] H (kNot Q) E) : rNeq K C sp E (.ref a) y H Q :=
  ⟨a, dx, fs, t, rfl, ho, kd, b, q⟩
end
end AF
/-! further steps -/
namespace AF
open PySem PySem.Spec PyProof.Rows L2
def kChain (r' : R2) (tc : TE) (σ : L2.St) (y : V) (Q : VK) (z : V) (H : Hp) : Prop := ∃ k, z = .bl k ∧ (if k = true then tc σ H fun w' H4 => r' y w' H4 Q else Q (.bl false) H)
section
variable {σ : L2.St} {H : Hp} {Q : VK} {ta tb tc : TE} {r r' : R2} {x y c : V} {K : PySem.W.Frag} {t u : Value} {b k : Bool}
theorem g_chain (h : ta σ H fun x H1 => tb σ H1 fun y H2 => r x y H2 (kChain r' tc σ y Q)) : tChain r r' ta tb tc σ H Q := h
theorem g_kchain (q : if k = true then tc σ H fun w' H4 => r' y w' H4 Q else Q (.bl false) H) : kChain r' tc σ y Q (.bl k) H := ⟨k, rfl, q⟩
theorem g_isi (cv : ClsV c u) (ty : TyX K H x t) (e : PySem.W.kitOne K t u = some b) (q : Q (.bl b) H) : rIsi K [x, c] H Q := ⟨x, c, t, u, b, rfl, cv, ty, e, q⟩
theorem dp_int {i j : Int} (h : i = j) : Dp K H (.int i) (.int j) := by rw [h]; exact .int j
theorem dp_bl {i j : Bool} (h : i = j) : Dp K H (.bl i) (.bool j) := by rw [h]; exact .bl j
theorem dp_lst {a : Addr} {xs : List V} {ds : List PyData} (h : H a = some (.lst xs)) (q : DpAll K H xs ds) : Dp K H (.ref a) (.list ds) := .lst (SqL.of h) q
theorem dp_tup {a : Addr} {xs : List V} {ds : List PyData} (h : H a = some (.tup xs)) (q : DpAll K H xs ds) : Dp K H (.ref a) (.tuple ds) := .tup (.inl (.inl h)) q
theorem eqv_self {d : PyData} (s : SeqAt.shaped d = true) : PyData.eqv d d = true := SeqAt.eqv_refl_plain d (PySem.PyData.plain_of_canLay0 d (SeqAt.canLay_of_shaped s))
theorem g_neD {d : PyData} (hx : Dp K H x d) (hy : Dp K H y d) (s : SeqAt.shaped d = true) (q : Q (.bl false) H) : rNeD K x y H Q := ⟨d, d, hx, hy, s, s, by rw [eqv_self s]; exact q⟩
theorem g_eqD {d : PyData} (hx : Dp K H x d) (hy : Dp K H y d) (s : SeqAt.shaped d = true) (q : Q (.bl true) H) : rEqD K x y H Q := ⟨d, d, hx, hy, s, s, by rw [eqv_self s]; exact q⟩
end
/-- a new instance comes out, all else stays -/
def New (C : Addr) (fs : List (Str × V)) (H : Hp) (Q : VK) : Prop := ∀ x dx H', H x = none → Ch [] H H' → H' x = some (.ins C dx fs) → Q (.ref x) H'
theorem g_new {H0 : Hp} {M : Addr → Prop} {H : Hp} {l : List Ent} {C : Addr} {fs : List (Str × V)} {Q : VK} (S : Sh H0 M H l) (q : ∀ x dx H', Sh H0 M H' ((x, .ins C dx fs, true) :: l) → Q (.ref x) H') : New C fs H Q :=
  fun x dx H' hn c h => q x dx H' (S.add c hn h)
/-- an object is being made by its __init__ -/
theorem g_kmake {H0 : Hp} {M : Addr → Prop} {H : Hp} {l : List Ent} {C : Addr} {sp : Sp} {E : XK} {Q : VK} {vs : List V} {fs : List (Str × V)} (S : Sh H0 M H l)
    (h : ∀ (x dx : Addr) (H1 : Hp) (Q' : VK), H1 x = some (.ins C dx []) → (∀ H2, Ch [x] H1 H2 → H2 x = some (.ins C dx fs) → Q' .non H2) → sp (.ref x :: vs) H1 Q' E)
    (q : ∀ x dx H', Sh H0 M H' ((x, .ins C dx fs, true) :: l) → Q (.ref x) H') : kMake C sp E Q vs H := by
  intro x dx hx hd ne
  have S1 := (S.new (o := .own x) hd).new (p := x) (o := .ins C dx []) (by rw [upd_ne (Ne.symm ne)]; exact hx)
  refine h x dx _ _ (S1.has_ .here) fun H2 c h2 => ⟨rfl, q x dx H2 ?_⟩
  have S2 := S1.ch1 .here c h2
  refine ⟨S2.fr, fun e he => ?_, ?_, fun e he hm => ?_⟩
  · rcases List.mem_cons.mp he with z | z
    · exact S2.has e (z ▸ List.mem_cons_self)
    · exact S2.has e (List.mem_cons_of_mem _ (List.mem_cons_of_mem _ z))
  · have ap := S2.ap
    simp only [List.map_cons, List.pairwise_cons] at ap ⊢
    exact ⟨fun t ht => ap.1 t (List.mem_cons_of_mem _ ht), ap.2.2⟩
  · rcases List.mem_cons.mp he with z | z
    · exact S2.mu e (z ▸ List.mem_cons_self) hm
    · exact S2.mu e (List.mem_cons_of_mem _ (List.mem_cons_of_mem _ z)) hm
end AF
/-! loops over a range, items at an open place -/
namespace AF
open PySem PySem.Spec PyProof.Rows L2
def kR1 (P : Int → Hp → Prop) (vs : List V) (H : Hp) : Prop := ∃ j : Int, vs = [.int j] ∧ -(2 ^ 62) ≤ j ∧ j < 2 ^ 62 ∧ P j H
/-- a loop over a range of n turns -/
def Loop (n : Nat) (g : TG) (tb : TS) (D : Ends) (σ : L2.St) (H : Hp) : Prop := ∃ W : Nat → Nat → L2.St → Hp → Prop, (∃ m, W 0 m σ H) ∧ ∀ i m σ H, W i m σ H →
  ((Itr 0 n).stop i H ∧ D.nx σ H) ∨ ((Itr 0 n).go i H ∧ ∃ N : L2.St → Hp → Prop, (∀ σ' H', N σ' H' → ∃ m', m' < m ∧ W (i + 1) m' σ' H') ∧ ∀ x H', (Itr 0 n).yld i H x H' → g x σ H' fun σ2 H2 => tb { D with nx := N, ct := N, bk := D.nx } σ2 H2)
section
variable {σ σ' : L2.St} {H : Hp} {Q : VK} {i j : Int} {x y v : V} {K : PySem.W.Frag} {p : Addr} {xs : List V} {ta : TA} {tb : TS} {g : TG} {D : Ends}
theorem g_for1 (h : ta σ H (kR1 fun j H1 => Loop j.toNat g tb D σ H1)) : tFor (iRng1 ta) g tb D σ H := h
theorem g_kR1 {P : Int → Hp → Prop} (h1 : -(2 ^ 62) ≤ j) (h2 : j < 2 ^ 62) (q : P j H) : kR1 P [.int j] H := ⟨j, rfl, h1, h2, q⟩
theorem g_loop {n k : Nat} {nx : L2.St → Hp → Prop} {rt : VK} {bk ct : L2.St → Hp → Prop} (Pv : Nat → L2.St → Hp → Prop) (h0 : Pv 0 σ H)
    (hs : ∀ (i : Nat) σ H, i < n → Pv i σ H → tb ⟨Pv (i + 1), rt, nx, Pv (i + 1)⟩ (σ.set k (some (.int (i : Int)))) H) (hd : ∀ σ H, Pv n σ H → nx σ H) : Loop n (gName k) tb ⟨nx, rt, bk, ct⟩ σ H :=
  for_range (lo := 0) (n := n) (D := ⟨nx, rt, bk, ct⟩) Pv h0 (fun i σ H hi p => by
    have e : (0 : Int) + (i : Int) = (i : Int) := Int.zero_add _
    show tb ⟨Pv (i + 1), rt, nx, Pv (i + 1)⟩ (σ.set k (some (.int ((0 : Int) + (i : Int))))) H
    rw [e]
    exact hs i σ H hi p) hd
theorem g_absN (q : ∀ j : Int, 0 ≤ j → Q (.int j) H) : rAbs1 [.int i] H Q := ⟨i, rfl, q _ (by split <;> omega)⟩
theorem g_maxN (q : ∀ z : Int, i ≤ z → j ≤ z → (z = i ∨ z = j) → Q (.int z) H) : rMaxI [.int i, .int j] H Q := ⟨i, j, rfl, q _ (by split <;> omega) (by split <;> omega) (by split <;> simp)⟩
theorem g_minN (q : ∀ z : Int, z ≤ i → z ≤ j → (z = i ∨ z = j) → Q (.int z) H) : rMinI [.int i, .int j] H Q := ⟨i, j, rfl, q _ (by split <;> omega) (by split <;> omega) (by split <;> simp)⟩
theorem atI_some {α : Type} {xs : List α} (h0 : 0 ≤ i) (h1 : i < xs.length) : ∃ v, v ∈ xs ∧ atI xs i = some v := by
  obtain ⟨k, rfl⟩ : ∃ k : Nat, i = k := ⟨i.toNat, by omega⟩
  have hk : k < xs.length := by omega
  exact ⟨xs[k], List.getElem_mem hk, atI_nat (List.getElem?_eq_getElem hk)⟩
/-- an item of a list at an open place: what all items have -/
theorem g_ixP {P : V → Prop} (h : H p = some (.lst xs)) (h0 : 0 ≤ i) (h1 : i < xs.length) (hp : ∀ v, v ∈ xs → P v) (q : ∀ v, P v → Q v H) : rIxL K (.ref p) (.int i) H Q := by
  obtain ⟨v, hv, e⟩ := atI_some h0 h1
  exact ⟨p, xs, i, v, rfl, rfl, SqL.of h, e, q v (hp v hv)⟩
/-- .. of ints between two bounds -/
def IntIn (lo hi : Int) (v : V) : Prop := ∃ z, v = .int z ∧ lo ≤ z ∧ z ≤ hi
theorem g_ixI (lo hi : Int) (h : H p = some (.lst xs)) (h0 : 0 ≤ i) (h1 : i < xs.length) (hp : ∀ v, v ∈ xs → IntIn lo hi v) (q : ∀ z : Int, lo ≤ z → z ≤ hi → Q (.int z) H) : rIxL K (.ref p) (.int i) H Q :=
  g_ixP h h0 h1 hp fun v ⟨z, e, a, b⟩ => by rw [e]; exact q z a b
theorem intIn_nil {lo hi : Int} : ∀ v, v ∈ ([] : List V) → IntIn lo hi v := fun _ h => nomatch h
theorem intIn_cons {lo hi z : Int} {r : List V} (h1 : lo ≤ z) (h2 : z ≤ hi) (h : ∀ v, v ∈ r → IntIn lo hi v) : ∀ v, v ∈ V.int z :: r → IntIn lo hi v := fun v hv => by
  rcases List.mem_cons.mp hv with e | e
  · exact ⟨z, e, h1, h2⟩
  · exact h v e
end
/-! the law's own helpers: a source of drawn numbers -/
def Sd (n s : Int) : Prop := 0 ≤ n ∧ 0 ≤ s ∧ s < 2147483647
def spSource (K : PySem.W.Frag) : Sp := fun vs H Q _ => ∃ (a : Addr) (ns : List Int) (t : Nat), vs = [.ref a, .int (t : Int)] ∧ SqL K H a (ns.map V.int) ∧
  ∀ (q : Addr) (n s : Int) (H' : Hp), H q = none → Ch [] H H' → H' q = some (.lst [.int n, .int s]) → Sd n s → Q (.ref q) H'
def spDraw : Sp := fun vs H Q _ => ∃ (a : Addr) (n s m : Int), vs = [.ref a, .int m] ∧ H a = some (.lst [.int n, .int s]) ∧ Sd n s ∧ 1 ≤ m ∧ m ≤ 10 ^ 60 ∧
  ∀ (d n' s' : Int) (H' : Hp), Ch [a] H H' → H' a = some (.lst [.int n', .int s']) → 0 ≤ d → d < m → Sd n' s' → Q (.int d) H'
/-- a helper that draws and hands out what P says -/
def spGive (P : V → Prop) : Sp := fun vs H Q _ => ∃ (a : Addr) (n s : Int), vs = [.ref a] ∧ H a = some (.lst [.int n, .int s]) ∧ Sd n s ∧
  ∀ (v : V) (n' s' : Int) (H' : Hp), Ch [a] H H' → H' a = some (.lst [.int n', .int s']) → P v → Sd n' s' → Q v H'
section
variable {H0 : Hp} {M : Addr → Prop} {H : Hp} {l : List Ent} {l' : Int → Int → List Ent} {a : Addr} {n s m : Int} {Q : VK} {E : XK} {K : PySem.W.Frag}
theorem use_draw (S : Sh H0 M H l) (r : ∀ n' s', Rep l a (.lst [.int n, .int s]) (.lst [.int n', .int s']) (l' n' s')) (hs : Sd n s) (h1 : 1 ≤ m) (h2 : m ≤ 10 ^ 60)
    (q : ∀ d n' s' H', 0 ≤ d → d < m → Sd n' s' → Sh H0 M H' (l' n' s') → Q (.int d) H') : spDraw [.ref a, .int m] H Q E :=
  ⟨a, n, s, m, rfl, S.has _ (r n s).mem, hs, h1, h2, fun d n' s' H' c h p1 p2 p3 => q d n' s' H' p1 p2 p3 (S.ch1 (r n' s') c h)⟩
theorem use_give {P : V → Prop} (S : Sh H0 M H l) (r : ∀ n' s', Rep l a (.lst [.int n, .int s]) (.lst [.int n', .int s']) (l' n' s')) (hs : Sd n s)
    (q : ∀ v n' s' H', P v → Sd n' s' → Sh H0 M H' (l' n' s') → Q v H') : spGive P [.ref a] H Q E :=
  ⟨a, n, s, rfl, S.has _ (r n s).mem, hs, fun v n' s' H' c h p1 p3 => q v n' s' H' p1 p3 (S.ch1 (r n' s') c h)⟩
theorem use_giveI {lo hi : Int} (S : Sh H0 M H l) (r : ∀ n' s', Rep l a (.lst [.int n, .int s]) (.lst [.int n', .int s']) (l' n' s')) (hs : Sd n s)
    (q : ∀ z n' s' H', lo ≤ z → z ≤ hi → Sd n' s' → Sh H0 M H' (l' n' s') → Q (.int z) H') : spGive (IntIn lo hi) [.ref a] H Q E :=
  use_give S r hs fun v n' s' H' ⟨z, e, h1, h2⟩ hs S' => by rw [e]; exact q z n' s' H' h1 h2 hs S'
theorem use_source {ns : List Int} {t : Nat} (S : Sh H0 M H l) (h : SqL K H a (ns.map V.int)) (q : ∀ b n s H', Sd n s → Sh H0 M H' ((b, .lst [.int n, .int s], true) :: l) → Q (.ref b) H') : spSource K [.ref a, .int (t : Int)] H Q E :=
  ⟨a, ns, t, rfl, h, fun b n s H' hb c hh hs => q b n s H' hs (S.add c hb hh)⟩
end
end AF
/-! the plain steps, found by their heads -/
namespace AF
open PySem PySem.Spec PyProof.Rows L2
class Step (A : Prop) (B : outParam Prop) : Prop where
  go : B → A
class SlotI (σ : L2.St) (i : Nat) (v : outParam V) : Prop where
  at_ : σ[i]? = some (some v)
instance {v : V} {r : L2.St} : SlotI (some v :: r) 0 v := ⟨rfl⟩
instance {o : Option V} {r : L2.St} {i : Nat} {v : V} [h : SlotI r i v] : SlotI (o :: r) (i + 1) v := ⟨by rw [List.getElem?_cons_succ]; exact h.at_⟩
class SetI (σ : L2.St) (i : Nat) (v : V) (σ' : outParam L2.St) : Prop where
  eq : σ.set i (some v) = σ'
instance {o : Option V} {r : L2.St} {v : V} : SetI (o :: r) 0 v (some v :: r) := ⟨rfl⟩
instance {o : Option V} {r r' : L2.St} {i : Nat} {v : V} [h : SetI r i v r'] : SetI (o :: r) (i + 1) v (o :: r') := ⟨by rw [List.set_cons_succ, h.eq]⟩
class StartI (N : List Str) (vs : List V) (σ : outParam L2.St) : Prop where
  en : Ent0 N vs σ
instance : StartI [] [] [] := ⟨.nil⟩
instance {x : Str} {N : List Str} {v : V} {vs : List V} {σ : L2.St} [h : StartI N vs σ] : StartI (x :: N) (v :: vs) (some v :: σ) := ⟨.val h.en⟩
instance {x : Str} {N : List Str} {σ : L2.St} [h : StartI N [] σ] : StartI (x :: N) [] (none :: σ) := ⟨.non h.en⟩
section
variable {σ σ' : L2.St} {H : Hp} {Q : VK} {nx : L2.St → Hp → Prop} {rt : VK} {bk ct : L2.St → Hp → Prop} {ta tb tc te : TE} {t u : TS} {c d : TT} {i j : Int} {x y : V} {K : PySem.W.Frag} {a C dx : Addr} {f m : Str} {v : V} {k : Bool} {tr : TA} {sp : Sp} {E : XK} {QB : Bool → Hp → Prop} {QL : List V → Hp → Prop}
instance : Step (tSeq t u ⟨nx, rt, bk, ct⟩ σ H) (t ⟨fun σ H => u ⟨nx, rt, bk, ct⟩ σ H, rt, bk, ct⟩ σ H) := ⟨g_seq⟩
instance : Step (tNext ⟨nx, rt, bk, ct⟩ σ H) (nx σ H) := ⟨g_next⟩
instance {i : Nat} : Step (tAsg te (gName i) ⟨nx, rt, bk, ct⟩ σ H) (te σ H fun x H1 => nx (σ.set i (some x)) H1) := ⟨g_asg⟩
instance : Step (tRet te ⟨nx, rt, bk, ct⟩ σ H) (te σ H rt) := ⟨g_ret⟩
instance : Step (tRetN ⟨nx, rt, bk, ct⟩ σ H) (rt .non H) := ⟨g_retN⟩
instance : Step (tDrop te ⟨nx, rt, bk, ct⟩ σ H) (te σ H fun _ H1 => nx σ H1) := ⟨g_drop⟩
instance : Step (tIfS c t u ⟨nx, rt, bk, ct⟩ σ H) (c σ H fun b H1 => if b = true then t ⟨nx, rt, bk, ct⟩ σ H1 else u ⟨nx, rt, bk, ct⟩ σ H1) := ⟨g_if⟩
instance {i : Nat} [h : SlotI σ i v] : Step (tVar i σ H Q) (Q v H) := ⟨g_var h.at_⟩
instance : Step (tC v σ H Q) (Q v H) := ⟨g_c⟩
instance {r : R2} : Step (tOp r ta tb σ H Q) (ta σ H fun x H1 => tb σ H1 fun y H2 => r x y H2 Q) := ⟨g_op⟩
instance {r : V → Hp → VK → Prop} : Step (tUn r ta σ H Q) (ta σ H fun x H1 => r x H1 Q) := ⟨g_un⟩
instance {g : Int → Int → V} : Step (rI0 g (.int i) (.int j) H Q) (Q (g i j) H) := ⟨g_I0⟩
instance {g : Int → V} : Step (rU g (.int i) H Q) (Q (g i) H) := ⟨g_U⟩
instance : Step (rEq (.int i) (.int j) H Q) (Q (.bl (decide (i = j))) H) := ⟨g_eqI⟩
instance : Step (rNe (.int i) (.int j) H Q) (Q (.bl (!decide (i = j))) H) := ⟨g_neI⟩
instance : Step (tTest te σ H QB) (te σ H (kB QB)) := ⟨g_test⟩
instance : Step (tB te σ H QB) (te σ H (kB QB)) := ⟨g_tB⟩
instance : Step (kB QB (.bl k) H) (QB k H) := ⟨g_kb⟩
instance : Step (kAnd Q tb σ (.bl k) H) (if k = true then tb σ H Q else Q (.bl false) H) := ⟨g_kand⟩
instance : Step (kOr Q tb σ (.bl k) H) (if k = true then Q (.bl true) H else tb σ H Q) := ⟨g_kor⟩
instance : Step (kNot Q (.bl k) H) (Q (.bl (!k)) H) := ⟨g_knot⟩
instance {r' : R2} : Step (kChain r' tc σ y Q (.bl k) H) (if k = true then tc σ H fun w' H4 => r' y w' H4 Q else Q (.bl false) H) := ⟨g_kchain⟩
instance {r r' : R2} : Step (tChain r r' ta tb tc σ H Q) (ta σ H fun x H1 => tb σ H1 fun y H2 => r x y H2 (kChain r' tc σ y Q)) := ⟨g_chain⟩
instance : Step (tAndV ta tb σ H Q) (ta σ H (kAnd Q tb σ)) := ⟨g_andV⟩
instance : Step (tOrV ta tb σ H Q) (ta σ H (kOr Q tb σ)) := ⟨g_orV⟩
instance : Step (tNotV ta σ H Q) (ta σ H (kNot Q)) := ⟨g_notV⟩
instance : Step (tNot c σ H QB) (c σ H fun k H1 => QB (!k) H1) := ⟨g_tnot⟩
instance : Step (tAnd c d σ H QB) (c σ H fun k H1 => if k = true then d σ H1 QB else QB false H1) := ⟨g_tand⟩
instance : Step (tOr c d σ H QB) (c σ H fun k H1 => if k = true then QB true H1 else d σ H1 QB) := ⟨g_tor⟩
instance : Step (tIf c ta tb σ H Q) (c σ H fun k H1 => if k = true then ta σ H1 Q else tb σ H1 Q) := ⟨g_ifE⟩
instance : Step (tNil σ H QL) (QL [] H) := ⟨g_nil⟩
instance : Step (tCons ta tr σ H QL) (ta σ H fun x H1 => tr σ H1 fun xs H2 => QL (x :: xs) H2) := ⟨g_cons⟩
instance {r : List V → Hp → VK → Prop} : Step (tCB r tr σ H Q) (tr σ H fun vs H1 => r vs H1 Q) := ⟨g_cb⟩
instance : Step (tCall sp [] E tr σ H Q) (tr σ H fun vs H1 => sp vs H1 Q E) := ⟨g_call⟩
instance : Step (tProp C sp [] E ta σ H Q) (ta σ H (kProp C sp E Q)) := ⟨g_prop⟩
instance : Step (tMeth C m sp [] E ta tr σ H Q) (ta σ H (kMeth C m sp E tr σ Q)) := ⟨g_meth⟩
instance : Step (tMake C sp [] E tr σ H Q) (tr σ H (kMake C sp E Q)) := ⟨g_make⟩
instance : Step (rInt1 [.int i] H Q) (Q (.int i) H) := ⟨g_int⟩
instance : Step (rInt1 [.bl k] H Q) (Q (.int (if k then 1 else 0)) H) := ⟨g_intb⟩
instance : Step (tLst tr σ H Q) (tr σ H (kLst Q)) := ⟨g_lst⟩
instance : Step (tTup tr σ H Q) (tr σ H (kTup Q)) := ⟨g_tup⟩
instance {i j : Nat} : Step (tPar i j tr ⟨nx, rt, bk, ct⟩ σ H) (tr σ H (kPar nx σ i j)) := ⟨g_par⟩
instance {i j : Nat} {σ2 : L2.St} [h : SetI σ i x σ'] [h2 : SetI σ' j y σ2] : Step (kPar nx σ i j [x, y] H) (nx σ2 H) := ⟨fun q => ⟨x, y, rfl, by rw [h.eq, h2.eq]; exact q⟩⟩
instance {to ti : TE} {s : TSet} : Step (tAsg te (gSub to ti s) ⟨nx, rt, bk, ct⟩ σ H) (te σ H fun x H1 => to σ H1 fun o H2 => ti σ H2 fun i H3 => s o i x H3 fun H4 => nx σ H4) := ⟨g_sub⟩
instance : Step (tFld K ta f σ H Q) (ta σ H (kFld K f Q)) := ⟨g_fld⟩
instance {tv : TE} : Step (sFld K ta tv f ⟨nx, rt, bk, ct⟩ σ H) (tv σ H fun y H1 => ta σ H1 (kSFld K f (nx σ) y)) := ⟨g_sfld⟩
instance {ta : TA} {g : TG} {D : Ends} : Step (tFor (iRng1 ta) g t D σ H) (ta σ H (kR1 fun j H1 => Loop j.toNat g t D σ H1)) := ⟨g_for1⟩
end
theorem set_go {σ σ' : L2.St} {i : Nat} {v : V} {H : Hp} {A : L2.St → Hp → Prop} [h : SetI σ i v σ'] (q : A σ' H) : A (σ.set i (some v)) H := by rw [h.eq]; exact q
theorem start_go {N : List Str} {vs : List V} {σ : L2.St} {A : L2.St → Hp → Prop} {H : Hp} [h : StartI N vs σ] (q : A σ H) : A (L2.start N vs) H := g_start h.en q
end AF
/-! what the top leaves, looked at once -/
namespace AF
open PySem PySem.Spec PyProof.Rows L2 He
open PySem.W (Frag findIn isFn subIn selfFirst notFirst specialIn takesIn mroIn kitOne keepIn codeIn recIn)

/-- a def, by where it stands -/
structure DA where
  ad : Frag → Addr
  name : Str
  qual : Str
  st : Stmt
  dfl : List Dv := []
  kwd : List (Str × Dv) := []
def seeF (K : Frag) (a : Addr) : FnW := match K.lookup a with
  | some ⟨_, _, .func d, _⟩ => some (d.name, d.qualname, d.params, d.body, d.scope, d.globals, d.closure, d.builtins)
  | _ => none
def DA.want (d : DA) : FnW := some (d.name, d.qual, defArgs d.st, .stmts (defBody d.st), defScope d.st, mainGlobals, [], builtinsNs)
def DA.fine (K : Frag) (d : DA) : Bool := keepIn K (.ref (d.ad K)) && (match K.lookup (d.ad K) with
  | some ⟨_, _, .func fd, _⟩ => codeIn K fd.code d.qual && (dflB K fd.defaults (d.dfl.map (Dv.v K)) && kwdB K fd.kwdefaults (d.kwd.map fun q => (q.1, q.2.v K)))
  | _ => false)
theorem DA.get {K : Frag} {d : DA} (e : seeF K (d.ad K) = d.want) (c : d.fine K = true) :
    ∃ fd, FunD K d.name d.qual (defArgs d.st) (defBody d.st) (defScope d.st) (d.dfl.map (Dv.v K)) (d.kwd.map fun q => (q.1, q.2.v K)) (d.ad K) fd := by
  obtain ⟨kp, c2⟩ := ba c
  unfold seeF at e
  cases q : K.lookup (d.ad K) with
  | none => rw [q] at c2; cases c2
  | some o =>
    obtain ⟨oc, od, dt, osl⟩ := o
    rw [q] at c2 e
    cases dt with
    | func fd =>
      obtain ⟨n1, n2, n3, n4, n5, n6, n7, n8, n9, n10, n11, n12, n13, n14, n15⟩ := fd
      have e2 : (some (n1, n2, n3, n4, n5, n6, n7, n15) : FnW) = some (d.name, d.qual, defArgs d.st, .stmts (defBody d.st), defScope d.st, mainGlobals, [], builtinsNs) := e
      simp only [Option.some.injEq, Prod.mk.injEq] at e2
      obtain ⟨h1, h2, h3, h4, h5, h6, h7, h8⟩ := e2
      subst h1 h2 h3 h4 h5 h6 h7 h8
      obtain ⟨k1, k2⟩ := ba (show (codeIn K n13 d.qual && (dflB K n8 (d.dfl.map (Dv.v K)) && kwdB K n9 (d.kwd.map fun q => (q.1, q.2.v K)))) = true from c2)
      obtain ⟨k3, k4⟩ := ba k2
      exact ⟨_, ⟨oc, od, n8, n9, n10, n11, n12, n13, n14, osl, rfl, q, k1, dflB_ok k3, kwdB_ok k4⟩, kp⟩
    | _ => cases c2
abbrev Seen : Type := Bool × List FnW
def look (fs : Frag → List Bool) (ds : List DA) (K : Frag) : Seen := ((fs K).all id && ds.all fun d => d.fine K, ds.map fun d => seeF K (d.ad K))
def lookW (ds : List DA) : Seen := (true, ds.map DA.want)
def Tells (fs : Frag → List Bool) (ds : List DA) (K : Frag) : Prop := look fs ds K = lookW ds
def lookG (n : Nat) (fs : Frag → List Bool) (ds : List DA) (g : Addr → Option Obj) : Seen := look fs ds (frG g (asD g n))
def hook (n : Nat) (fs : Frag → List Bool) (ds : List DA) : PySem.W.Hook where
  α := Seen
  obs := fun s => lookG n fs ds s.heap.get?
  val := fun _ => lookW ds
  says := fun _ h => ∃ K : Frag, K.In h ∧ Tells fs ds K
  of := fun _ _ e => ⟨_, frG_in, e⟩
  keeps := fun _ _ _ ⟨K, hK, c⟩ k => ⟨K, Frag.In.keeps hK k, c⟩
theorem lookG_eq {n : Nat} {fs : Frag → List Bool} {ds : List DA} {g : Addr → Option Obj} {s : Shared} (h : ∀ a, g a = s.heap.get? a) : lookG n fs ds g = (hook n fs ds).obs s := by
  have e : g = s.heap.get? := funext h
  rw [e]
  rfl
section
variable {fs : Frag → List Bool} {ds : List DA} {K : Frag}
theorem Tells.fact (c : Tells fs ds K) (i : Nat) {b : Bool} (h : (fs K)[i]? = some b := by rfl) : b = true := by
  have c1 := (ba (show ((fs K).all id && ds.all fun d => d.fine K) = true from congrArg (fun z : Seen => z.1) c)).1
  exact List.all_eq_true.mp c1 b (List.mem_of_getElem? h)
theorem Tells.def_ (c : Tells fs ds K) (i : Nat) {d : DA} (h : ds[i]? = some d := by rfl) :
    ∃ fd, FunD K d.name d.qual (defArgs d.st) (defBody d.st) (defScope d.st) (d.dfl.map (Dv.v K)) (d.kwd.map fun q => (q.1, q.2.v K)) (d.ad K) fd := by
  have c2 := (ba (show ((fs K).all id && ds.all fun d => d.fine K) = true from congrArg (fun z : Seen => z.1) c)).2
  have e : ds.map (fun d => seeF K (d.ad K)) = ds.map DA.want := congrArg (fun z : Seen => z.2) c
  have e2 : (ds.map fun d => seeF K (d.ad K))[i]? = (ds.map DA.want)[i]? := by rw [e]
  rw [List.getElem?_map, List.getElem?_map, h] at e2
  exact DA.get (Option.some.inj e2) (List.all_eq_true.mp c2 d (List.mem_of_getElem? h))
end
/-! facts as truths -/
section
variable {K : Frag} {C f : Addr} {op : Operator} {T : String}
def refO : Option Value → Bool
  | some (.ref _) => true
  | none => true
  | _ => false
def refS : Option (Option Value) → Bool
  | some o => refO o
  | none => false
def fnS : Option (Option Value) → Bool
  | some (some (.ref _)) => true
  | _ => false
def binB (K : Frag) (op : Operator) (C f : Addr) : Bool := selfFirst K C && (eqO (findIn K (.ref C) (PySem.dunder op.info.2)) (some (some (.ref f))) && (isFn K (.ref f) && refS (findIn K (.ref C) (dunderR op.info.2))))
theorem binB_ok (h : binB K op C f = true) : Bin K op C f := by
  obtain ⟨h1, h⟩ := ba h
  obtain ⟨h2, h⟩ := ba h
  obtain ⟨h3, h4⟩ := ba h
  refine ⟨h1, eqO_ok h2, h3, ?_⟩
  cases e : findIn K (.ref C) (dunderR op.info.2) with
  | none => rw [e] at h4; cases h4
  | some o =>
    rw [e] at h4
    refine ⟨o, rfl, ?_⟩
    cases o with
    | none => exact .inl rfl
    | some v =>
      cases v with
      | ref a => exact .inr ⟨a, rfl⟩
      | _ => cases h4
def binTB (K : Frag) (op : Operator) (C : Addr) (T : String) : Bool := (findIn K (.type T) (PySem.dunder op.info.2)).isSome && ((findIn K (.type T) (dunderR op.info.2)).isSome && decide (subIn K (.type T) (.ref C) = some false))
theorem binTB_ok (h : binTB K op C T = true) : Beside K op C (.type T) := by
  obtain ⟨h1, h⟩ := ba h
  obtain ⟨h2, h3⟩ := ba h
  exact .inr ⟨T, rfl, Option.isSome_iff_exists.mp h1, Option.isSome_iff_exists.mp h2, of_decide_eq_true h3⟩
def binRB (K : Frag) (op : Operator) (C f : Addr) : Bool := selfFirst K C && (fnS (findIn K (.ref C) (PySem.dunder op.info.2)) && (eqO (findIn K (.ref C) (dunderR op.info.2)) (some (some (.ref f))) && (isFn K (.ref f) && decide (subIn K (.ref C) (.type "int") = some false))))
theorem binRB_ok (h : binRB K op C f = true) : BinR K op C f := by
  obtain ⟨h1, h⟩ := ba h
  obtain ⟨h2, h⟩ := ba h
  obtain ⟨h3, h⟩ := ba h
  obtain ⟨h4, h5⟩ := ba h
  refine ⟨h1, ?_, eqO_ok h3, h4, of_decide_eq_true h5⟩
  unfold fnS at h2
  split at h2
  · rename_i a e
    exact ⟨a, e⟩
  · cases h2
def cmpB (K : Frag) (op : CmpOp) (C f : Addr) : Bool := eqO (findIn K (.ref C) (cmpInfo op).2.1) (some (some (.ref f))) && isFn K (.ref f)
theorem cmpB_ok {op : CmpOp} (h : cmpB K op C f = true) : Cmp K op C f := by
  obtain ⟨h1, h2⟩ := ba h
  exact ⟨eqO_ok h1, h2⟩
def neB (K : Frag) (C f : Addr) : Bool := eqO (findIn K (.ref C) "__ne__") (some (some (.builtin "object.__ne__"))) && (eqO (findIn K (.ref C) "__eq__") (some (some (.ref f))) && (isFn K (.ref f) && decide (mroIn K C (.type "object") = some true)))
theorem neB_ok (h : neB K C f = true) : NeC K C f := by
  obtain ⟨h1, h⟩ := ba h
  obtain ⟨h2, h⟩ := ba h
  obtain ⟨h3, h4⟩ := ba h
  exact ⟨eqO_ok h1, eqO_ok h2, h3, of_decide_eq_true h4⟩
def insB (K : Frag) (C : Addr) : Bool := eqO (findIn K (.ref C) "__class__") (some (some (.builtin "object.__class__"))) && (eqO (specialIn K (.builtin "object.__class__") "__get__") (some (some (.builtin "getset_descriptor.__get__"))) &&
  (decide (takesIn K (.builtin "object.__class__") = some true) && (decide (mroIn K C (.type "object") = some true) && decide (kitOne K (.ref C) (.ref C) = some true))))
theorem insB_ok (c : Cls K C) (h : insB K C = true) : C8.InsC K C := by
  obtain ⟨h1, h⟩ := ba h
  obtain ⟨h2, h⟩ := ba h
  obtain ⟨h3, h⟩ := ba h
  obtain ⟨h4, h5⟩ := ba h
  exact ⟨c, eqO_ok h1, eqO_ok h2, of_decide_eq_true h3, of_decide_eq_true h4, of_decide_eq_true h5⟩
/-- a property's getter -/
def getA (C : Str) (m : Str) (K : Frag) : Addr := He5.wf K (ga K C) "property" m
def propB (K : Frag) (C : Addr) (m : Str) (g : Addr) : Bool := eqO (findIn K (.ref C) m) (some (some (.ref (ma K C m)))) && (eqO (specialIn K (.ref (ma K C m)) "__get__") (some (some (.builtin "property.__get__"))) &&
  (decide (takesIn K (.ref (ma K C m)) = some true) && (match recIn K (ma K C m) "property" with
    | some (.ref a :: _) => decide (a = g)
    | _ => false)))
theorem propB_ok {m : Str} {g : Addr} (h : propB K C m g = true) : PropOf K C m (ma K C m) g := by
  obtain ⟨h1, h⟩ := ba h
  obtain ⟨h2, h⟩ := ba h
  obtain ⟨h3, h4⟩ := ba h
  refine ⟨eqO_ok h1, eqO_ok h2, of_decide_eq_true h3, ?_⟩
  split at h4
  · rename_i a r e
    rw [of_decide_eq_true h4] at e
    exact ⟨r, e⟩
  · cases h4
end
end AF
/-! comprehensions over a short range, truths compared, counted -/
namespace AF
open PySem PySem.Spec PyProof.Rows L2
section
variable {H0 : Hp} {M : Addr → Prop} {H : Hp} {l l' : List Ent}
theorem Sh.perm (S : Sh H0 M H l) (p : l.Perm l') : Sh H0 M H l' :=
  ⟨S.fr, fun e he => S.has e (p.mem_iff.mpr he), (p.map tag).pairwise S.ap (fun {a b} h k => (h (k.symm)).symm), fun e he => S.mu e (p.mem_iff.mpr he)⟩
end
section
variable {σ σ' : L2.St} {H : Hp} {Q : VK} {K : PySem.W.Frag} {a b k : Bool} {nx : L2.St → Hp → Prop} {rt : VK} {bk ct : L2.St → Hp → Prop}
theorem g_eqB (q : Q (.bl (decide (a = b))) H) : rEq (.bl a) (.bl b) H Q := ⟨rfl, by
  have e : decide (V.bl a = V.bl b) = decide (a = b) := by rw [dec_bl]; cases a <;> cases b <;> rfl
  rw [e]; exact q⟩
theorem g_neB (q : Q (.bl (!decide (a = b))) H) : rNe (.bl a) (.bl b) H Q := ⟨rfl, by
  have e : decide (V.bl a = V.bl b) = decide (a = b) := by rw [dec_bl]; cases a <;> cases b <;> rfl
  rw [e]; exact q⟩
instance : Step (rEq (.bl a) (.bl b) H Q) (Q (.bl (decide (a = b))) H) := ⟨g_eqB⟩
instance : Step (rNe (.bl a) (.bl b) H Q) (Q (.bl (!decide (a = b))) H) := ⟨g_neB⟩
end
/-- a comprehension over a range of n turns, its variable in slot k -/
def LcR (n k : Nat) (te : TE) (σ : L2.St) (Q : VK) (H : Hp) : Prop := ∀ D, H D = none → ∃ W : Nat → Nat → Hp → Prop, (∃ m, W 0 m (upd H D (.lst []))) ∧ ∀ i m H, W i m H →
  ((Itr 0 n).stop i H ∧ Q (.ref D) H) ∨ ((Itr 0 n).go i H ∧ ∃ Nx : Hp → Prop, (∀ H', Nx H' → ∃ m', m' < m ∧ W (i + 1) m' H') ∧ ∀ x H', (Itr 0 n).yld i H x H' → gName k x (wipe σ [k]) H' fun σ2 H2 => wipe σ2 [k] = wipe σ [k] ∧ tYes σ2 H2 fun b H3 =>
    if b = true then te σ2 H3 fun y H4 => ∃ acc, H4 D = some (.lst acc) ∧ acc.length < sizeLine ∧ Nx (upd H4 D (.lst (acc ++ [y]))) else Nx H3)
/-- behind an element -/
def kEl (D : Addr) (P : Hp → Prop) (y : V) (H : Hp) : Prop := ∃ acc, H D = some (.lst acc) ∧ acc.length < sizeLine ∧ P (upd H D (.lst (acc ++ [y])))
section
variable {σ σ' : L2.St} {H : Hp} {Q : VK} {ta : TA} {te : TE} {k n : Nat}
theorem g_lcR (h : ta σ H (kR1 fun j H1 => LcR j.toNat k te σ Q H1)) : tLc (iRng1 ta) (gName k) tYes te [k] σ H Q := h
instance {x : Str} : Step (tLc (iRng1 ta) (gName k) tYes te (List.map (fun x => x.snd) [(x, k)]) σ H Q) (ta σ H (kR1 fun j H1 => LcR j.toNat k te σ Q H1)) := ⟨g_lcR⟩
theorem g_lcloop (hk : ∀ x : V, wipe ((wipe σ [k]).set k (some x)) [k] = wipe σ [k]) (Pv : Addr → Nat → Hp → Prop) (h0 : ∀ D, H D = none → Pv D 0 (upd H D (.lst [])))
    (hs : ∀ D (i : Nat) H', i < n → Pv D i H' → te ((wipe σ [k]).set k (some (.int (i : Int)))) H' (kEl D (Pv D (i + 1)))) (hd : ∀ D H', Pv D n H' → Q (.ref D) H') : LcR n k te σ Q H := fun D hD =>
  lc_range (lo := 0) (n := n) (Pv D) (h0 D hD) (fun i H' hi p => by
    have e : (0 : Int) + (i : Int) = (i : Int) := Int.zero_add _
    have q := hs D i H' hi p
    rw [← e] at q
    exact ⟨hk _, iteT (B := Pv D (i + 1) H') q⟩) (hd D)
theorem g_kel {H0 : Hp} {M : Addr → Prop} {l l' : List Ent} {D : Addr} {P : Hp → Prop} {acc : List V} {y : V} (S : Sh H0 M H l) (r : Rep l D (.lst acc) (.lst (acc ++ [y])) l') (hl : acc.length ≤ 1000) (q : ∀ H', Sh H0 M H' l' → P H') : kEl D P y H :=
  ⟨acc, S.has _ r.mem, small1000 hl, q _ (S.put r)⟩
end
theorem g_unl3 {σ σ1 σ2 σ3 : L2.St} {H : Hp} {K : PySem.W.Frag} {p : Addr} {x y z : V} {i j k : Nat} {P : L2.St → Hp → Prop} [h1 : SetI σ i x σ1] [h2 : SetI σ1 j y σ2] [h3 : SetI σ2 k z σ3] (h : H p = some (.lst [x, y, z])) (q : P σ3 H) :
    gUnl K 3 (gCons (gName i) (gCons (gName j) (gCons (gName k) gNil))) (.ref p) σ H P := by
  refine ⟨p, _, rfl, SqL.of h, rfl, x, _, rfl, y, _, rfl, z, _, rfl, rfl, ?_⟩
  rw [h1.eq, h2.eq, h3.eq]
  exact q
instance {te : TE} {K : PySem.W.Frag} {n : Nat} {t : TGs} {nx : L2.St → Hp → Prop} {rt : VK} {bk ct : L2.St → Hp → Prop} {σ : L2.St} {H : Hp} : Step (tAsg te (gUnl K n t) ⟨nx, rt, bk, ct⟩ σ H) (te σ H fun x H1 => gUnl K n t x σ H1 nx) := ⟨fun h => h⟩
/-- list.count of a truth in a list of truths -/
def eqb (k : Bool) (v : Value) : Bool := match v with
  | .bool b => b == k
  | _ => false
def rCntB (K : PySem.W.Frag) : V → List V → Hp → VK → Prop := fun x xs H Q => ∃ (p : Addr) (bs : List Bool) (k : Bool), x = .ref p ∧ xs = [.bl k] ∧ SqL K H p (bs.map V.bl) ∧ Q (.int (bs.count k : Nat)) H
theorem bools_of : ∀ {bs : List Bool} {us : List Value}, Vals (bs.map V.bl) us → us = bs.map Value.bool
  | [], _, .nil => rfl
  | b :: bs, _, .cons r t => by
    cases r
    rw [bools_of t]
    rfl
theorem countP_eqb {k : Bool} : ∀ bs : List Bool, (bs.map Value.bool).countP (eqb k) = bs.count k
  | [] => rfl
  | b :: bs => by
    rw [List.map_cons, List.countP_cons, List.count_cons, countP_eqb bs]
    rfl
theorem mt_bcount {X : Cx} : MtR X "list.count" (rCntB X.K) := by
  intro pins s σ H x xs v us Q I rx rxs h
  obtain ⟨p, bs, k, rfl, rfl, hs, q⟩ := h
  cases rx
  obtain ⟨u, rfl, ru⟩ := rxs.one
  cases ru
  obtain ⟨its, rv, ⟨⟨cls, dd, data, sl⟩, n, ho, hc, hdn, hd⟩, hlen⟩ := I.list hs
  simp only at hc hd
  subst hc hd
  have hi := bools_of rv
  subst hi
  refine call_meets PySem.F.slot_list_count ⟨_, ho, rfl⟩ PySem.F.entry_list_count (PySem.F.args_list_count_2 _ _)
    (SeqAt.list_countAt p (bs.map Value.bool).toArray n dd sl (.bool k) (eqb k)) ⟨ho, fun y hy => ?_, ?_⟩
  · have hy' : y ∈ bs.map Value.bool := List.mem_toArray.mp hy
    obtain ⟨b, _, rfl⟩ := List.mem_map.mp hy'
    exact SeqAt.EqAt.bool_bool b k
  · refine ⟨.int (bs.count k : Nat), H, I.tok _, ⟨s.toks, ?_⟩, q⟩
    show Value.int (((bs.map Value.bool).toArray.toList.countP (eqb k) : Nat) : Int) s.toks = Value.int ((bs.count k : Nat) : Int) s.toks
    rw [show ((bs.map Value.bool).toArray.toList) = bs.map Value.bool from rfl, countP_eqb]
def kBM (K : PySem.W.Frag) (T : String) (r : V → List V → Hp → VK → Prop) (t : TA) (σ : L2.St) (Q : VK) (x : V) (H : Hp) : Prop := tyV K T x H ∧ t σ H fun xs H2 => r x xs H2 Q
instance {K : PySem.W.Frag} {T : String} {r : V → List V → Hp → VK → Prop} {to : TE} {t : TA} {σ : L2.St} {H : Hp} {Q : VK} : Step (tBM K T r to t σ H Q) (to σ H (kBM K T r t σ Q)) := ⟨fun h => h⟩
/-- xs.count(k), xs just made -/
theorem g_cnt3 {H0 : Hp} {M : Addr → Prop} {l : List Ent} {σ : L2.St} {H : Hp} {Q : VK} {K : PySem.W.Frag} {p : Addr} {x y z : Bool} (S : Sh H0 M H l) (o : On l p (.lst [.bl x, .bl y, .bl z]))
    (q : Q (.int (([x, y, z] : List Bool).count true : Nat)) H) : kBM K "list" (rCntB K) (tCons (tC (.bl true)) tNil) σ Q (.ref p) H :=
  ⟨.inl ⟨rfl, _, SqL.of (S.has_ o)⟩, p, [x, y, z], true, rfl, rfl, SqL.of (S.has_ o), q⟩
end AF
namespace K59
open PySem PySem.Spec PyProof.Rows L2 AF
def top (i : Nat) : Stmt := PySem.Challenge.pw_agedfiles_k59_whole_moments_as_numbers.main.body.getD i (.Pass ⟨0, 0, 0, 0⟩)
abbrev s_NoMoment___init__ : Stmt := inClass (top 2) 0
theorem c_NoMoment___init__ : FnScope ["self", "value"] ["self", "value"] (defScope s_NoMoment___init__) := ⟨rfl, rfl, rfl, by decide +kernel, rfl, by decide +kernel, by decide +kernel⟩
abbrev s_NoGrain___init__ : Stmt := inClass (top 3) 0
theorem c_NoGrain___init__ : FnScope ["self", "value"] ["self", "value"] (defScope s_NoGrain___init__) := ⟨rfl, rfl, rfl, by decide +kernel, rfl, by decide +kernel, by decide +kernel⟩
abbrev s_is_whole : Stmt := top 5
theorem c_is_whole : FnScope ["value"] ["value"] (defScope s_is_whole) := ⟨rfl, rfl, rfl, by decide +kernel, rfl, by decide +kernel, by decide +kernel⟩
abbrev s_is_moment : Stmt := top 6
theorem c_is_moment : FnScope ["value"] ["value"] (defScope s_is_moment) := ⟨rfl, rfl, rfl, by decide +kernel, rfl, by decide +kernel, by decide +kernel⟩
abbrev s_Moment___init__ : Stmt := inClass (top 8) 0
theorem c_Moment___init__ : FnScope ["self", "seconds"] ["self", "seconds"] (defScope s_Moment___init__) := ⟨rfl, rfl, rfl, by decide +kernel, rfl, by decide +kernel, by decide +kernel⟩
abbrev s_Moment_seconds : Stmt := inClass (top 8) 1
theorem c_Moment_seconds : FnScope ["self"] ["self"] (defScope s_Moment_seconds) := ⟨rfl, rfl, rfl, by decide +kernel, rfl, by decide +kernel, by decide +kernel⟩
abbrev s_Moment_seen : Stmt := inClass (top 8) 2
theorem c_Moment_seen : FnScope ["self", "grain"] ["self", "grain"] (defScope s_Moment_seen) := ⟨rfl, rfl, rfl, by decide +kernel, rfl, by decide +kernel, by decide +kernel⟩
abbrev s_Moment___add__ : Stmt := inClass (top 8) 3
theorem c_Moment___add__ : FnScope ["self", "other"] ["self", "other"] (defScope s_Moment___add__) := ⟨rfl, rfl, rfl, by decide +kernel, rfl, by decide +kernel, by decide +kernel⟩
abbrev s_Moment___radd__ : Stmt := inClass (top 8) 4
theorem c_Moment___radd__ : FnScope ["self", "other"] ["self", "other"] (defScope s_Moment___radd__) := ⟨rfl, rfl, rfl, by decide +kernel, rfl, by decide +kernel, by decide +kernel⟩
abbrev s_Moment___sub__ : Stmt := inClass (top 8) 5
theorem c_Moment___sub__ : FnScope ["self", "other"] ["self", "other"] (defScope s_Moment___sub__) := ⟨rfl, rfl, rfl, by decide +kernel, rfl, by decide +kernel, by decide +kernel⟩
abbrev s_Moment___rsub__ : Stmt := inClass (top 8) 6
theorem c_Moment___rsub__ : FnScope ["self", "other"] ["self", "other"] (defScope s_Moment___rsub__) := ⟨rfl, rfl, rfl, by decide +kernel, rfl, by decide +kernel, by decide +kernel⟩
abbrev s_Moment___lt__ : Stmt := inClass (top 8) 7
theorem c_Moment___lt__ : FnScope ["self", "other"] ["self", "other"] (defScope s_Moment___lt__) := ⟨rfl, rfl, rfl, by decide +kernel, rfl, by decide +kernel, by decide +kernel⟩
abbrev s_Moment___le__ : Stmt := inClass (top 8) 8
theorem c_Moment___le__ : FnScope ["self", "other"] ["self", "other"] (defScope s_Moment___le__) := ⟨rfl, rfl, rfl, by decide +kernel, rfl, by decide +kernel, by decide +kernel⟩
abbrev s_Moment___gt__ : Stmt := inClass (top 8) 9
theorem c_Moment___gt__ : FnScope ["self", "other"] ["self", "other"] (defScope s_Moment___gt__) := ⟨rfl, rfl, rfl, by decide +kernel, rfl, by decide +kernel, by decide +kernel⟩
abbrev s_Moment___ge__ : Stmt := inClass (top 8) 10
theorem c_Moment___ge__ : FnScope ["self", "other"] ["self", "other"] (defScope s_Moment___ge__) := ⟨rfl, rfl, rfl, by decide +kernel, rfl, by decide +kernel, by decide +kernel⟩
abbrev s_Moment___eq__ : Stmt := inClass (top 8) 11
theorem c_Moment___eq__ : FnScope ["self", "other"] ["self", "other"] (defScope s_Moment___eq__) := ⟨rfl, rfl, rfl, by decide +kernel, rfl, by decide +kernel, by decide +kernel⟩
abbrev s_number_of : Stmt := top 9
theorem c_number_of : FnScope ["value"] ["value"] (defScope s_number_of) := ⟨rfl, rfl, rfl, by decide +kernel, rfl, by decide +kernel, by decide +kernel⟩
abbrev s_law_source : Stmt := top 11
theorem c_law_source : FnScope ["script", "turn", "cell", "number", "seed"] ["script", "turn"] (defScope s_law_source) := ⟨rfl, rfl, rfl, by decide +kernel, rfl, by decide +kernel, by decide +kernel⟩
abbrev s_law_draw : Stmt := top 12
theorem c_law_draw : FnScope ["source", "amount", "digit", "found"] ["source", "amount"] (defScope s_law_draw) := ⟨rfl, rfl, rfl, by decide +kernel, rfl, by decide +kernel, by decide +kernel⟩
abbrev s_law_pick : Stmt := top 13
theorem c_law_pick : FnScope ["source", "items"] ["source", "items"] (defScope s_law_pick) := ⟨rfl, rfl, rfl, by decide +kernel, rfl, by decide +kernel, by decide +kernel⟩
abbrev s_law_rounds : Stmt := top 14
theorem c_law_rounds : FnScope ["source", "a", "b", "grain", "low", "step"] ["source", "a", "b"] (defScope s_law_rounds) := ⟨rfl, rfl, rfl, by decide +kernel, rfl, by decide +kernel, by decide +kernel⟩
abbrev s_law : Stmt := top 15
theorem c_law : FnScope ["script", "turn", "source", "far", "a", "b", "c", "step", "more", "k"] ["script"] (defScope s_law) := ⟨rfl, rfl, rfl, by decide +kernel, rfl, by decide +kernel, by decide +kernel⟩
local macro_rules | `(tactic| purse 7003 => fail) => `(tactic| k_dflt (refine Sh.has_ (by assumption) ?_; repeat (first | exact On.here | apply On.next)))
local macro_rules | `(tactic| purse 7004 => fail) => `(tactic| k_dflt (repeat (first | exact On.here | apply On.next)))
local macro_rules | `(tactic| purse 7005 => fail) => `(tactic| (repeat (first | exact Rep.here | apply Rep.next)))
local macro_rules | `(tactic| purse 7006 => fail) => `(tactic| (exact Sh.out (by assumption) (fun b h => by simp [h])))
local macro_rules | `(tactic| purse 7007 => fail) => `(tactic| k_dflt (first | ((with_reducible refine cdivw ?_ ?_) <;> omega) | ((with_reducible show CDiv _ _); constructor <;> omega) | ((with_reducible show CMul _ _); (first | (left; constructor <;> omega) | (right; constructor <;> omega))) | (show (0 : Int) < _; omega)))
local macro_rules | `(tactic| purse 7008 => fail) => `(tactic| first | exact Kd.int _ | exact Kd.bl _ | exact Kd.non | exact Kd.str _ | exact Kd.ins (by (purse 7003 => fail)) | exact Kd.lst (by (purse 7003 => fail)) | exact Kd.tup (by (purse 7003 => fail)))
local macro_rules | `(tactic| purse 7009 => fail) => `(tactic| first | exact DpAll.nil | (apply DpAll.cons; (purse 7010 => fail); (purse 7009 => fail)))
local macro_rules | `(tactic| purse 7010 => fail) => `(tactic| first | exact Dp.int _ | exact Dp.bl _ | exact Dp.non | exact Dp.str _ | (refine dp_int ?_; omega) | (refine dp_bl ?_; simp only [decide_eq_decide]; omega) | (apply dp_lst; (purse 7003 => fail); (purse 7009 => fail)) | (apply dp_tup; (purse 7003 => fail); (purse 7009 => fail)))
local macro_rules | `(tactic| purse 7011 => fail) => `(tactic| first | assumption | omega)
local macro_rules | `(tactic| purse 7001 => fail) => `(tactic| fail "no use")
local macro_rules | `(tactic| purse 7002 => fail) => `(tactic| first
  | (with_reducible refine set_go ?_)
  | (with_reducible refine Step.go ?_)
  | (with_reducible first | refine g_pow10_6 ?_ | refine g_pow10_7 ?_ | refine g_pow10_18 ?_ | refine g_pow10_29 ?_ | refine g_pow10_30 ?_)
  | ((with_reducible refine' g_I ?a0 ?_); (case a0 => (purse 7007 => fail)))
  | ((with_reducible refine' g_ixL ?a0 ?a1 ?_); (case a0 => (purse 7003 => fail)); (case a1 => k_dflt (exact rfl)))
  | ((with_reducible refine' g_kfld ?a0 ?a1 ?a2 ?a3 ?_); (case a0 => (purse 7003 => fail)); (case a1 => k_dflt (assumption)); (case a2 => k_dflt (assumption)); (case a3 => k_dflt (exact rfl)))
  | ((with_reducible refine' g_kprop ?a0 ?_); (case a0 => (purse 7003 => fail)))
  | ((with_reducible refine' g_kmeth ?a0 ?a1 ?_); (case a0 => (purse 7003 => fail)); (case a1 => k_dflt (exact rfl)))
  | ((with_reducible refine' g_own ?a0 ?a1 ?a2 ?_); (case a0 => (purse 7003 => fail)); (case a1 => (purse 7008 => fail)); (case a2 => k_dflt (assumption)))
  | ((with_reducible refine' g_cmp ?a0 ?a1 ?a2 ?_); (case a0 => (purse 7003 => fail)); (case a1 => (purse 7008 => fail)); (case a2 => k_dflt (assumption)))
  | ((with_reducible refine' g_neq ?a0 ?a1 ?a2 ?_); (case a0 => (purse 7003 => fail)); (case a1 => (purse 7008 => fail)); (case a2 => k_dflt (assumption)))
  | ((with_reducible refine' g_right ?a0 ?_); (case a0 => (purse 7003 => fail)))
  | ((with_reducible refine' use_draw ?a0 ?a1 ?a2 ?a3 ?a4 ?_); (case a0 => assumption); (case a1 => intro _ _; (purse 7005 => fail)); (case a2 => assumption); (case a3 => (purse 7011 => fail)); (case a4 => (purse 7011 => fail)); intro _ _ _ _ _ _ _ _)
  | ((with_reducible refine' use_giveI ?a0 ?a1 ?a2 ?_); (case a0 => assumption); (case a1 => intro _ _; (purse 7005 => fail)); (case a2 => assumption); intro _ _ _ _ _ _ _ _)
  | ((with_reducible refine' use_source ?a0 ?a1 ?_); (case a0 => assumption); (case a1 => k_dflt (assumption)); intro _ _ _ _ _ _)
  | (with_reducible refine g_absN ?_; intro _ _)
  | (with_reducible refine g_maxN ?_; intro _ _ _ _)
  | (with_reducible refine g_minN ?_; intro _ _ _ _)
  | ((with_reducible refine' g_kR1 ?a0 ?a1 ?_); (case a0 => omega); (case a1 => omega))
  | ((with_reducible refine' g_neD ?a0 ?a1 ?a2 ?_); (case a0 => (purse 7010 => fail)); (case a1 => (purse 7010 => fail)); (case a2 => k_dflt (rfl)))
  | ((with_reducible refine' g_eqD ?a0 ?a1 ?a2 ?_); (case a0 => (purse 7010 => fail)); (case a1 => (purse 7010 => fail)); (case a2 => k_dflt (rfl)))
  | ((with_reducible refine' g_klst ?a0 ?a1 ?_); (case a0 => assumption); (case a1 => k_dflt (exact rfl)); intro _ _ _ _)
  | ((with_reducible refine' g_ktup ?a0 ?a1 ?_); (case a0 => assumption); (case a1 => k_dflt (exact rfl)); intro _ _ _ _)
  | ((with_reducible refine' g_setL ?a0 ?a1 ?a2 ?_); (case a0 => assumption); (case a1 => (purse 7005 => fail)); (case a2 => k_dflt (exact rfl)); intro _ _)
  | ((with_reducible refine' g_unl3 ?a0 ?_); (case a0 => (purse 7003 => fail)))
  | (purse 7001 => fail))
local macro_rules | `(tactic| purse 7012 => fail) => `(tactic| ((try (with_reducible refine start_go ?_)); repeat (purse 7002 => fail)))
local macro_rules | `(tactic| purse 7013 => fail) => `(tactic| first | rfl | (refine decide_eq_true ?_; omega) | (simp only [Bool.not_eq_true', Bool.not_eq_false', decide_eq_false_iff_not, decide_eq_true_eq, Bool.not_not, decide_eq_decide]; done) | (simp only [Bool.not_eq_true', Bool.not_eq_false', decide_eq_false_iff_not, decide_eq_true_eq, Bool.not_not, decide_eq_decide]; omega))
local macro_rules | `(tactic| purse 7014 => fail) => `(tactic| first | rfl | (refine decide_eq_false ?_; omega) | (simp only [Bool.not_eq_true', Bool.not_eq_false', decide_eq_false_iff_not, decide_eq_true_eq, Bool.not_not, decide_eq_decide]; done) | (simp only [Bool.not_eq_true', Bool.not_eq_false', decide_eq_false_iff_not, decide_eq_true_eq, Bool.not_not, decide_eq_decide]; omega))
local macro_rules | `(tactic| purse 7015 => fail) => `(tactic| ((refine g_yes ?h ?_); (case h => (purse 7013 => fail))))
local macro_rules | `(tactic| purse 7016 => fail) => `(tactic| ((refine g_no ?h ?_); (case h => (purse 7014 => fail))))
local macro_rules | `(tactic| purse 7017 => fail) => `(tactic| first | (purse 7015 => fail) | (purse 7016 => fail))
local macro_rules | `(tactic| purse 7018 => fail) => `(tactic| repeat ((purse 7012 => fail); (purse 7017 => fail)))
local macro_rules | `(tactic| purse 7019 => fail) => `(tactic| repeat (first | exact intIn_nil | refine intIn_cons (by omega) (by omega) ?_))
local macro_rules | `(tactic| purse 7020 => fail) => `(tactic| (simp only [List.length_cons, List.length_nil]; omega))
local macro_rules | `(tactic| purse 7021 => fail) => `(tactic| (refine g_two (fun c => ?_) (fun c => ?_) <;> first | (have c := of_decide_eq_true c) | (have c := of_decide_eq_false c) | skip))
local macro_rules | `(tactic| purse 7022 => fail) => `(tactic| ((purse 7018 => fail); (purse 7012 => fail); try ((purse 7021 => fail) <;> (purse 7022 => fail))))

/-! moments: what the class's text and its helpers promise -/
open He in
structure TM (K : PySem.W.Frag) (mg : Str → Option Value) : Prop where
  g_Moment : mg "Moment" = some (.ref (ga K "Moment"))
  g_is_whole : mg "is_whole" = some (.ref (ga K "is_whole"))
  g_is_moment : mg "is_moment" = some (.ref (ga K "is_moment"))
  g_number_of : mg "number_of" = some (.ref (ga K "number_of"))
  z_isinstance : mg "isinstance" = none
  z_int : mg "int" = none
  z_bool : mg "bool" = none
  cl : Cls K (ga K "Moment")
  nN : NoAttr K (ga K "Moment") "number"
  ic : C8.InsC K (ga K "Moment")
  ki : PySem.W.kitOne K (.type "int") (.ref (ga K "Moment")) = some false
  ba : Bin K .Add (ga K "Moment") (ma K (ga K "Moment") "__add__")
  bi : Beside K .Add (ga K "Moment") (.type "int")
def mo (n : Int) : List (Str × V) := [("number", .int n)]
def spWhole : Sp := fun vs H Q _ => ∃ n : Int, vs = [.int n] ∧ Q (.bl true) H
def spIsMo : Sp := fun vs H Q _ => ∃ n : Int, vs = [.int n] ∧ -1000000000000000000000000000000 ≤ n ∧ n ≤ 1000000000000000000000000000000 ∧ Q (.bl true) H
def spInit (C : Addr) : Sp := fun vs H Q _ => ∃ (p dx : Addr) (n : Int), vs = [.ref p, .int n] ∧ H p = some (.ins C dx []) ∧ -1000000000000000000000000000000 ≤ n ∧ n ≤ 1000000000000000000000000000000 ∧ ∀ H', Ch [p] H H' → H' p = some (.ins C dx (mo n)) → Q .non H'
def spSec (C : Addr) : Sp := fun vs H Q _ => ∃ (a dx : Addr) (n : Int), vs = [.ref a] ∧ H a = some (.ins C dx (mo n)) ∧ Q (.int n) H
def spSeen (C : Addr) : Sp := fun vs H Q _ => ∃ (a dx : Addr) (n g : Int), vs = [.ref a, .int g] ∧ H a = some (.ins C dx (mo n)) ∧ 1 ≤ g ∧ g ≤ 1000000 ∧ -1000000000000000000000000000000 ≤ n / g * g ∧ n / g * g ≤ 1000000000000000000000000000000 ∧ New C (mo (n / g * g)) H Q
def spPlus (C : Addr) (f : Int → Int → Int) : Sp := fun vs H Q _ => ∃ (a dx : Addr) (n k : Int), vs = [.ref a, .int k] ∧ H a = some (.ins C dx (mo n)) ∧ -1000000000000000000000000000000 ≤ f n k ∧ f n k ≤ 1000000000000000000000000000000 ∧ New C (mo (f n k)) H Q
def spSub (C : Addr) : Sp := fun vs H Q E => (∃ (a dx b dy : Addr) (n m : Int), vs = [.ref a, .ref b] ∧ H a = some (.ins C dx (mo n)) ∧ H b = some (.ins C dy (mo m)) ∧ Q (.int (n - m)) H) ∨ spPlus C (fun n k => n - k) vs H Q E
def spCmp (C : Addr) (f : Int → Int → Bool) : Sp := fun vs H Q _ => ∃ (a dx b dy : Addr) (n m : Int), vs = [.ref a, .ref b] ∧ H a = some (.ins C dx (mo n)) ∧ H b = some (.ins C dy (mo m)) ∧ Q (.bl (f n m)) H
def spEqM (C : Addr) : Sp := fun vs H Q E => spCmp C (fun n m => decide (n = m)) vs H Q E ∨ ∃ (a dx : Addr) (n m : Int), vs = [.ref a, .int m] ∧ H a = some (.ins C dx (mo n)) ∧ Q (.bl false) H
def spNum (C : Addr) : Sp := fun vs H Q _ => ∃ (b dy : Addr) (m : Int), vs = [.ref b] ∧ H b = some (.ins C dy (mo m)) ∧ Q (.int m) H
section
open He
variable {P : Program} {w : World} {K : PySem.W.Frag} {mg : Str → Option Value} {base : Heap} {f : Addr} {fd : FuncData}
abbrev FnP (K : PySem.W.Frag) (x q : Str) (st : Stmt) (f : Addr) (fd : FuncData) : Prop := FunD K x q (defArgs st) (defBody st) (defScope st) [] [] f fd
theorem ty_mo {H : Hp} {a dx : Addr} {fs : List (Str × V)} (T : TM K mg) (h : H a = some (.ins (ga K "Moment") dx fs)) : TyX K H (.ref a) (.ref (ga K "Moment")) := .base (.ins h T.ic.cl T.ic.ha T.ic.hn T.ic.htk T.ic.hm)
theorem ok_whole (F : FnP K "is_whole" "is_whole" s_is_whole f fd) (T : TM K mg) : FnOk P w K mg base (L2.CX P w) 2 f fd ["value"] spWhole := by
  refine F.ok c_is_whole (fun vs H Q E h => ?_) (fun cdv A outer s H vs Q E hr h => ⟨_, pss_one (ps_ret (pe_and (pe_callB call_isi (by rfl) T.z_isinstance (by decide +kernel) (pa_cons (pv 0) (pa_cons (pe_bltn (v := .ty "int") rfl T.z_int (by decide +kernel) rfl) (pa_nil)))) (pe_one (pe_not (pe_callB call_isi (by rfl) T.z_isinstance (by decide +kernel) (pa_cons (pv 0) (pa_cons (pe_bltn (v := .ty "bool") rfl T.z_bool (by decide +kernel) rfl) (pa_nil)))))))), ?_⟩)
  · obtain ⟨n, rfl, _⟩ := h
    rfl
  · obtain ⟨n, rfl, k⟩ := h
    (purse 7012 => fail)
    refine g_isi (.ty "int") (.base (.int n)) (kit_ty (b := "int") (r := true) (by decide +kernel)) ?_
    (purse 7012 => fail)
    (purse 7015 => fail)
    (purse 7012 => fail)
    refine g_isi (.ty "bool") (.base (.int n)) (kit_ty (b := "bool") (r := false) (by decide +kernel)) ?_
    (purse 7012 => fail)
    exact k
theorem ok_ismo (F : FnP K "is_moment" "is_moment" s_is_moment f fd) (T : TM K mg) (D_is_whole : Dn P w K mg base 2 (ga K "is_whole") ["value"] spWhole) : FnOk P w K mg base (L2.CX P w) 4 f fd ["value"] spIsMo := by
  refine F.ok c_is_moment (fun vs H Q E h => ?_) (fun cdv A outer s H vs Q E hr h => ⟨_, pss_one (ps_ret (pe_and (pe_dn D_is_whole (rm hr) rfl T.g_is_whole (passes_call (takes_of rfl rfl rfl rfl) fun _ _ _ _ h => h) (pa_cons (pv 0) (pa_nil))) (pe_one (pe_chain op_le op_le (pe_un un_neg (pe_op op_pow (pe_int) (pe_int))) (pv 0) (pe_op op_pow (pe_int) (pe_int)))))), ?_⟩)
  · obtain ⟨n, rfl, _⟩ := h
    rfl
  · obtain ⟨n, rfl, h1, h2, k⟩ := h
    (purse 7012 => fail)
    refine ⟨n, rfl, ?_⟩
    (purse 7012 => fail)
    (purse 7015 => fail)
    (purse 7012 => fail)
    (purse 7015 => fail)
    (purse 7012 => fail)
    rw [decide_eq_true h2]
    exact k
theorem ok_init (F : FnP K "__init__" "Moment.__init__" s_Moment___init__ f fd) (T : TM K mg) (D_is_moment : Dn P w K mg base 4 (ga K "is_moment") ["value"] spIsMo) : FnOk P w K mg base (L2.CX P w) 6 f fd ["self", "seconds"] (spInit (ga K "Moment")) := by
  refine F.ok c_Moment___init__ (fun vs H Q E h => ?_) (fun cdv A outer s H vs Q E hr h => ⟨_, pss_cons (ps_if (pt_not (pt_val (pe_dn D_is_moment (rm hr) rfl T.g_is_moment (passes_call (takes_of rfl rfl rfl rfl) fun _ _ _ _ h => h) (pa_cons (pv 1) (pa_nil)))))
      (pss_one (ps_never))
      (pss_nil))
      (pss_one (ps_fld (pv 0) (pv 1) rfl)), ?_⟩)
  · obtain ⟨p, dx, n, rfl, _⟩ := h
    rfl
  · obtain ⟨p, dx, n, rfl, hp, h1, h2, k⟩ := h
    have S : Sh H (fun b => b = p) H [(p, .ins (ga K "Moment") dx [], true)] := Sh.start.take hp rfl (fun _ h => nomatch h)
    (purse 7012 => fail)
    refine ⟨n, rfl, h1, h2, ?_⟩
    (purse 7012 => fail)
    (purse 7016 => fail)
    (purse 7012 => fail)
    refine g_ksfld S (by (purse 7005 => fail)) T.cl T.nN (by decide) fun H' S' => ?_
    refine k H' (by (purse 7006 => fail)) (by (purse 7003 => fail))
theorem ok_sec (F : FnP K "seconds" "Moment.seconds" s_Moment_seconds f fd) (T : TM K mg) : FnOk P w K mg base (L2.CX P w) 2 f fd ["self"] (spSec (ga K "Moment")) := by
  refine F.ok c_Moment_seconds (fun vs H Q E h => ?_) (fun cdv A outer s H vs Q E hr h => ⟨_, pss_one (ps_ret (pe_fld (pv 0) rfl)), ?_⟩)
  · obtain ⟨a, dx, n, rfl, _⟩ := h
    rfl
  · obtain ⟨a, dx, n, rfl, ha, k⟩ := h
    have S : Sh H (fun _ => False) H [(a, .ins (ga K "Moment") dx (mo n), false)] := Sh.start.know ha (fun _ h => nomatch h)
    have t1 := T.cl
    have t2 := T.nN
    (purse 7012 => fail)
    exact k
theorem g_mkmo {H0 : Hp} {M : Addr → Prop} {H : Hp} {l : List Ent} {C : Addr} {E : XK} {Q : VK} {n : Int} (S : Sh H0 M H l) (h1 : -1000000000000000000000000000000 ≤ n) (h2 : n ≤ 1000000000000000000000000000000)
    (q : ∀ x dx H', Sh H0 M H' ((x, .ins C dx (mo n), true) :: l) → Q (.ref x) H') : kMake C (spInit C) E Q [.int n] H :=
  g_kmake (fs := mo n) S (fun x dx H1 Q' hx k => ⟨x, dx, n, rfl, hx, h1, h2, k⟩) q
section
variable {H0 : Hp} {M : Addr → Prop} {H : Hp} {l : List Ent} {C a b dx dy : Addr} {E : XK} {Q : VK} {n m g k : Int} {fn : Int → Int → Int} {fb : Int → Int → Bool}
theorem end_new {H' : Hp} {x : Addr} {fs : List (Str × V)} (S : Sh H (fun _ => False) H' ((x, .ins C dx fs, true) :: l)) (k : New C fs H Q) : Q (.ref x) H' :=
  k x dx H' ((S.mu _ List.mem_cons_self rfl).elim False.elim id) (S.out fun _ h => h.elim) (S.has_ .here)
theorem use_sec (S : Sh H0 M H l) (o : On l a (.ins C dx (mo n))) (q : Q (.int n) H) : spSec C [.ref a] H Q E := ⟨a, dx, n, rfl, S.has_ o, q⟩
theorem use_seen (S : Sh H0 M H l) (o : On l a (.ins C dx (mo n))) (h1 : 1 ≤ g) (h2 : g ≤ 1000000) (h3 : -1000000000000000000000000000000 ≤ n / g * g) (h4 : n / g * g ≤ 1000000000000000000000000000000)
    (q : ∀ x dx H', Sh H0 M H' ((x, .ins C dx (mo (n / g * g)), true) :: l) → Q (.ref x) H') : spSeen C [.ref a, .int g] H Q E := ⟨a, dx, n, g, rfl, S.has_ o, h1, h2, h3, h4, g_new S q⟩
theorem use_plus (S : Sh H0 M H l) (o : On l a (.ins C dx (mo n))) (h3 : -1000000000000000000000000000000 ≤ fn n k) (h4 : fn n k ≤ 1000000000000000000000000000000)
    (q : ∀ x dx H', Sh H0 M H' ((x, .ins C dx (mo (fn n k)), true) :: l) → Q (.ref x) H') : spPlus C fn [.ref a, .int k] H Q E := ⟨a, dx, n, k, rfl, S.has_ o, h3, h4, g_new S q⟩
theorem use_subI (S : Sh H0 M H l) (o : On l a (.ins C dx (mo n))) (h3 : -1000000000000000000000000000000 ≤ n - k) (h4 : n - k ≤ 1000000000000000000000000000000)
    (q : ∀ x dx H', Sh H0 M H' ((x, .ins C dx (mo (n - k)), true) :: l) → Q (.ref x) H') : spSub C [.ref a, .int k] H Q E := .inr ⟨a, dx, n, k, rfl, S.has_ o, h3, h4, g_new S q⟩
theorem use_subM (S : Sh H0 M H l) (o : On l a (.ins C dx (mo n))) (o2 : On l b (.ins C dy (mo m))) (q : Q (.int (n - m)) H) : spSub C [.ref a, .ref b] H Q E := .inl ⟨a, dx, b, dy, n, m, rfl, S.has_ o, S.has_ o2, q⟩
theorem use_cmp (S : Sh H0 M H l) (o : On l a (.ins C dx (mo n))) (o2 : On l b (.ins C dy (mo m))) (q : Q (.bl (fb n m)) H) : spCmp C fb [.ref a, .ref b] H Q E := ⟨a, dx, b, dy, n, m, rfl, S.has_ o, S.has_ o2, q⟩
theorem use_eqM (S : Sh H0 M H l) (o : On l a (.ins C dx (mo n))) (o2 : On l b (.ins C dy (mo m))) (q : Q (.bl (decide (n = m))) H) : spEqM C [.ref a, .ref b] H Q E := .inl ⟨a, dx, b, dy, n, m, rfl, S.has_ o, S.has_ o2, q⟩
theorem use_eqI (S : Sh H0 M H l) (o : On l a (.ins C dx (mo n))) (q : Q (.bl false) H) : spEqM C [.ref a, .int m] H Q E := .inr ⟨a, dx, n, m, rfl, S.has_ o, q⟩
theorem use_num (S : Sh H0 M H l) (o : On l a (.ins C dx (mo n))) (q : Q (.int n) H) : spNum C [.ref a] H Q E := ⟨a, dx, n, rfl, S.has_ o, q⟩
theorem use_whole (q : Q (.bl true) H) : spWhole [.int n] H Q E := ⟨n, rfl, q⟩
theorem use_ismo (h1 : -1000000000000000000000000000000 ≤ n) (h2 : n ≤ 1000000000000000000000000000000) (q : Q (.bl true) H) : spIsMo [.int n] H Q E := ⟨n, rfl, h1, h2, q⟩
theorem isi_mm {K K' : PySem.W.Frag} {mg : Str → Option Value} {fs : List (Str × V)} (e : K' = K) (T : TM K mg) (S : Sh H0 M H l) (o : On l a (.ins (ga K "Moment") dx fs)) (q : Q (.bl true) H) : rIsi K' [.ref a, .ref (ga K "Moment")] H Q := by
  rw [e]
  exact g_isi (.own _) (ty_mo T (S.has_ o)) T.ic.me q
theorem isi_im {K K' : PySem.W.Frag} {mg : Str → Option Value} (e : K' = K) (T : TM K mg) (q : Q (.bl false) H) : rIsi K' [.int n, .ref (ga K "Moment")] H Q := by
  rw [e]
  exact g_isi (.own _) (.base (.int n)) T.ki q
end
local macro_rules | `(tactic| purse 7001 => fail) => `(tactic| first
  | ((with_reducible refine' use_sec ?a0 ?a1 ?_); (case a0 => assumption); (case a1 => (purse 7004 => fail)))
  | ((with_reducible refine' use_cmp ?a0 ?a1 ?a2 ?_); (case a0 => assumption); (case a1 => (purse 7004 => fail)); (case a2 => (purse 7004 => fail)))
  | ((with_reducible refine' use_eqM ?a0 ?a1 ?a2 ?_); (case a0 => assumption); (case a1 => (purse 7004 => fail)); (case a2 => (purse 7004 => fail)))
  | ((with_reducible refine' use_eqI ?a0 ?a1 ?_); (case a0 => assumption); (case a1 => (purse 7004 => fail)))
  | ((with_reducible refine' use_num ?a0 ?a1 ?_); (case a0 => assumption); (case a1 => (purse 7004 => fail)))
  | (with_reducible refine use_whole ?_)
  | ((with_reducible refine' use_ismo ?a0 ?a1 ?_); (case a0 => (purse 7011 => fail)); (case a1 => (purse 7011 => fail)))
  | ((with_reducible refine' use_subM ?a0 ?a1 ?a2 ?_); (case a0 => assumption); (case a1 => (purse 7004 => fail)); (case a2 => (purse 7004 => fail)))
  | ((with_reducible refine' g_mkmo ?a0 ?a1 ?a2 ?_); (case a0 => assumption); (case a1 => (purse 7011 => fail)); (case a2 => (purse 7011 => fail)); intro _ _ _ _)
  | ((with_reducible refine' use_seen ?a0 ?a1 ?a2 ?a3 ?a4 ?a5 ?_); (case a0 => assumption); (case a1 => (purse 7004 => fail)); (case a2 => (purse 7011 => fail)); (case a3 => (purse 7011 => fail)); (case a4 => (purse 7011 => fail)); (case a5 => (purse 7011 => fail)); intro _ _ _ _)
  | ((with_reducible refine' use_plus ?a0 ?a1 ?a2 ?a3 ?_); (case a0 => assumption); (case a1 => (purse 7004 => fail)); (case a2 => (purse 7011 => fail)); (case a3 => (purse 7011 => fail)); intro _ _ _ _)
  | ((with_reducible refine' use_subI ?a0 ?a1 ?a2 ?a3 ?_); (case a0 => assumption); (case a1 => (purse 7004 => fail)); (case a2 => (purse 7011 => fail)); (case a3 => (purse 7011 => fail)); intro _ _ _ _)
  | ((with_reducible refine' isi_mm ?e ?a0 ?a1 ?a2 ?_); (case e => k_dflt rfl); (case a0 => assumption); (case a1 => assumption); (case a2 => (purse 7004 => fail)))
  | ((with_reducible refine' isi_im ?e ?a0 ?_); (case e => k_dflt rfl); (case a0 => assumption)))
theorem ok_seen (F : FnP K "seen" "Moment.seen" s_Moment_seen f fd) (T : TM K mg) (D_is_whole : Dn P w K mg base 2 (ga K "is_whole") ["value"] spWhole) (M_Moment : Mn P w K mg base 6 (ga K "Moment") ["self", "seconds"] (spInit (ga K "Moment"))) :
    FnOk P w K mg base (L2.CX P w) 9 f fd ["self", "grain"] (spSeen (ga K "Moment")) := by
  refine F.ok c_Moment_seen (fun vs H Q E h => ?_) (fun cdv A outer s H vs Q E hr h => ⟨_, pss_cons (ps_if (PW.pt (pw_or (pt_not (pt_val (pe_dn D_is_whole (rm hr) rfl T.g_is_whole (passes_call (takes_of rfl rfl rfl rfl) fun _ _ _ _ h => h) (pa_cons (pv 1) (pa_nil))))) (pw_or1 (pt_not (pt_chain op_le op_le (pe_int) (pv 1) (pe_op op_pow (pe_int) (pe_int)))))))
      (pss_one (ps_never))
      (pss_nil))
      (pss_one (ps_ret (pe_mn M_Moment (rm hr) rfl T.g_Moment (passes_call (takes_of rfl rfl rfl rfl) fun _ _ _ _ h => h) (pa_cons (pe_op op_mul (pe_op op_fdiv (pe_fld (pv 0) rfl) (pv 1)) (pv 1)) (pa_nil))))), ?_⟩)
  · obtain ⟨a, dx, n, g, rfl, _⟩ := h
    rfl
  · obtain ⟨a, dx, n, g, rfl, ha, h1, h2, h3, h4, k⟩ := h
    have S : Sh H (fun _ => False) H [(a, .ins (ga K "Moment") dx (mo n), false)] := Sh.start.know ha (fun _ h => nomatch h)
    have t1 := T.cl
    have t2 := T.nN
    (purse 7018 => fail)
    (purse 7012 => fail)
    exact end_new (by assumption) k
theorem ok_plus (F : FnP K "__add__" "Moment.__add__" s_Moment___add__ f fd) (T : TM K mg) (D_is_whole : Dn P w K mg base 2 (ga K "is_whole") ["value"] spWhole) (M_Moment : Mn P w K mg base 6 (ga K "Moment") ["self", "seconds"] (spInit (ga K "Moment"))) :
    FnOk P w K mg base (L2.CX P w) 9 f fd ["self", "other"] (spPlus (ga K "Moment") fun n k => n + k) := by
  refine F.ok c_Moment___add__ (fun vs H Q E h => ?_) (fun cdv A outer s H vs Q E hr h => ⟨_, pss_cons (ps_if (pt_not (pt_val (pe_dn D_is_whole (rm hr) rfl T.g_is_whole (passes_call (takes_of rfl rfl rfl rfl) fun _ _ _ _ h => h) (pa_cons (pv 1) (pa_nil)))))
      (pss_one (ps_never))
      (pss_nil))
      (pss_one (ps_ret (pe_mn M_Moment (rm hr) rfl T.g_Moment (passes_call (takes_of rfl rfl rfl rfl) fun _ _ _ _ h => h) (pa_cons (pe_op op_add (pe_fld (pv 0) rfl) (pv 1)) (pa_nil))))), ?_⟩)
  · obtain ⟨a, dx, n, g, rfl, _⟩ := h
    rfl
  · obtain ⟨a, dx, n, g, rfl, ha, h3, h4, k⟩ := h
    have S : Sh H (fun _ => False) H [(a, .ins (ga K "Moment") dx (mo n), false)] := Sh.start.know ha (fun _ h => nomatch h)
    have t1 := T.cl
    have t2 := T.nN
    (purse 7018 => fail)
    (purse 7012 => fail)
    exact end_new (by assumption) k
theorem ok_radd (F : FnP K "__radd__" "Moment.__radd__" s_Moment___radd__ f fd) (T : TM K mg) (D_add : Dn P w K mg base 9 (ma K (ga K "Moment") "__add__") ["self", "other"] (spPlus (ga K "Moment") fun n k => n + k)) :
    FnOk P w K mg base (L2.CX P w) 11 f fd ["self", "other"] (spPlus (ga K "Moment") fun n k => n + k) := by
  refine F.ok c_Moment___radd__ (fun vs H Q E h => ?_) (fun cdv A outer s H vs Q E hr h => ⟨_, pss_one (ps_ret (pe_op (op_own D_add T.ba (rm hr) (passes_call (takes_of rfl rfl rfl rfl) fun _ _ _ _ h => h)) (pv 0) (pv 1))), ?_⟩)
  · obtain ⟨a, dx, n, g, rfl, _⟩ := h
    rfl
  · obtain ⟨a, dx, n, g, rfl, ha, h3, h4, k⟩ := h
    have S : Sh H (fun _ => False) H [(a, .ins (ga K "Moment") dx (mo n), false)] := Sh.start.know ha (fun _ h => nomatch h)
    have t3 := T.bi
    (purse 7018 => fail)
    (purse 7012 => fail)
    exact end_new (by assumption) k
theorem ok_sub (F : FnP K "__sub__" "Moment.__sub__" s_Moment___sub__ f fd) (T : TM K mg) (D_is_whole : Dn P w K mg base 2 (ga K "is_whole") ["value"] spWhole) (M_Moment : Mn P w K mg base 6 (ga K "Moment") ["self", "seconds"] (spInit (ga K "Moment"))) :
    FnOk P w K mg base (L2.CX P w) 9 f fd ["self", "other"] (spSub (ga K "Moment")) := by
  refine F.ok c_Moment___sub__ (fun vs H Q E h => ?_) (fun cdv A outer s H vs Q E hr h => ⟨_, pss_cons (ps_if (pt_val (pe_callB call_isi (by rfl) T.z_isinstance (by decide +kernel) (pa_cons (pv 1) (pa_cons (pe_glob (v := .ref _) rfl T.g_Moment rfl) (pa_nil)))))
      (pss_one (ps_ret (pe_op op_sub (pe_fld (pv 0) rfl) (pe_fld (pv 1) rfl))))
      (pss_nil))
      (pss_cons (ps_if (pt_not (pt_val (pe_dn D_is_whole (rm hr) rfl T.g_is_whole (passes_call (takes_of rfl rfl rfl rfl) fun _ _ _ _ h => h) (pa_cons (pv 1) (pa_nil)))))
      (pss_one (ps_never))
      (pss_nil))
      (pss_one (ps_ret (pe_mn M_Moment (rm hr) rfl T.g_Moment (passes_call (takes_of rfl rfl rfl rfl) fun _ _ _ _ h => h) (pa_cons (pe_op op_sub (pe_fld (pv 0) rfl) (pv 1)) (pa_nil)))))), ?_⟩)
  · rcases h with ⟨a, dx, b, dy, n, m, rfl, _⟩ | ⟨a, dx, n, g, rfl, _⟩ <;> rfl
  · have t1 := T.cl
    have t2 := T.nN
    rcases h with ⟨a, dx, b, dy, n, m, rfl, ha, hb, k⟩ | ⟨a, dx, n, g, rfl, ha, h3, h4, k⟩
    · have S : Sh H (fun _ => False) H [(b, .ins (ga K "Moment") dy (mo m), false), (a, .ins (ga K "Moment") dx (mo n), false)] := (Sh.start.know ha (fun _ h => nomatch h)).know hb (fun e h m => by simp at h; rw [h] at m; cases m)
      (purse 7018 => fail)
      (purse 7012 => fail)
      exact k
    · have S : Sh H (fun _ => False) H [(a, .ins (ga K "Moment") dx (mo n), false)] := Sh.start.know ha (fun _ h => nomatch h)
      (purse 7018 => fail)
      (purse 7012 => fail)
      exact end_new (by assumption) k
theorem ok_num (F : FnP K "number_of" "number_of" s_number_of f fd) (T : TM K mg) : FnOk P w K mg base (L2.CX P w) 2 f fd ["value"] (spNum (ga K "Moment")) := by
  refine F.ok c_number_of (fun vs H Q E h => ?_) (fun cdv A outer s H vs Q E hr h => ⟨_, pss_cons (ps_if (pt_not (pt_val (pe_callB call_isi (by rfl) T.z_isinstance (by decide +kernel) (pa_cons (pv 0) (pa_cons (pe_glob (v := .ref _) rfl T.g_Moment rfl) (pa_nil))))))
      (pss_one (ps_never))
      (pss_nil))
      (pss_one (ps_ret (pe_fld (pv 0) rfl))), ?_⟩)
  · obtain ⟨a, dx, n, rfl, _⟩ := h
    rfl
  · obtain ⟨a, dx, n, rfl, ha, k⟩ := h
    have S : Sh H (fun _ => False) H [(a, .ins (ga K "Moment") dx (mo n), false)] := Sh.start.know ha (fun _ h => nomatch h)
    have t1 := T.cl
    have t2 := T.nN
    (purse 7018 => fail)
    (purse 7012 => fail)
    exact k
theorem ok_lt (F : FnP K "__lt__" "Moment.__lt__" s_Moment___lt__ f fd) (T : TM K mg) (D_number_of : Dn P w K mg base 2 (ga K "number_of") ["value"] (spNum (ga K "Moment"))) :
    FnOk P w K mg base (L2.CX P w) 4 f fd ["self", "other"] (spCmp (ga K "Moment") fun n m => decide (n < m)) := by
  refine F.ok c_Moment___lt__ (fun vs H Q E h => ?_) (fun cdv A outer s H vs Q E hr h => ⟨_, pss_one (ps_ret (pe_cmpR op_lt (pe_fld (pv 0) rfl) (pe_dn D_number_of (rm hr) rfl T.g_number_of (passes_call (takes_of rfl rfl rfl rfl) fun _ _ _ _ h => h) (pa_cons (pv 1) (pa_nil))) (nomark _))), ?_⟩)
  · obtain ⟨a, dx, b, dy, n, m, rfl, _⟩ := h
    rfl
  · obtain ⟨a, dx, b, dy, n, m, rfl, ha, hb, k⟩ := h
    have S : Sh H (fun _ => False) H [(b, .ins (ga K "Moment") dy (mo m), false), (a, .ins (ga K "Moment") dx (mo n), false)] := (Sh.start.know ha (fun _ h => nomatch h)).know hb (fun e h m => by simp at h; rw [h] at m; cases m)
    have t1 := T.cl
    have t2 := T.nN
    (purse 7018 => fail)
    (purse 7012 => fail)
    exact k
theorem ok_le (F : FnP K "__le__" "Moment.__le__" s_Moment___le__ f fd) (T : TM K mg) (D_number_of : Dn P w K mg base 2 (ga K "number_of") ["value"] (spNum (ga K "Moment"))) :
    FnOk P w K mg base (L2.CX P w) 4 f fd ["self", "other"] (spCmp (ga K "Moment") fun n m => decide (n ≤ m)) := by
  refine F.ok c_Moment___le__ (fun vs H Q E h => ?_) (fun cdv A outer s H vs Q E hr h => ⟨_, pss_one (ps_ret (pe_cmpR op_le (pe_fld (pv 0) rfl) (pe_dn D_number_of (rm hr) rfl T.g_number_of (passes_call (takes_of rfl rfl rfl rfl) fun _ _ _ _ h => h) (pa_cons (pv 1) (pa_nil))) (nomark _))), ?_⟩)
  · obtain ⟨a, dx, b, dy, n, m, rfl, _⟩ := h
    rfl
  · obtain ⟨a, dx, b, dy, n, m, rfl, ha, hb, k⟩ := h
    have S : Sh H (fun _ => False) H [(b, .ins (ga K "Moment") dy (mo m), false), (a, .ins (ga K "Moment") dx (mo n), false)] := (Sh.start.know ha (fun _ h => nomatch h)).know hb (fun e h m => by simp at h; rw [h] at m; cases m)
    have t1 := T.cl
    have t2 := T.nN
    (purse 7018 => fail)
    (purse 7012 => fail)
    exact k
theorem ok_gt (F : FnP K "__gt__" "Moment.__gt__" s_Moment___gt__ f fd) (T : TM K mg) (D_number_of : Dn P w K mg base 2 (ga K "number_of") ["value"] (spNum (ga K "Moment"))) :
    FnOk P w K mg base (L2.CX P w) 4 f fd ["self", "other"] (spCmp (ga K "Moment") fun n m => decide (m < n)) := by
  refine F.ok c_Moment___gt__ (fun vs H Q E h => ?_) (fun cdv A outer s H vs Q E hr h => ⟨_, pss_one (ps_ret (pe_cmpR op_gt (pe_fld (pv 0) rfl) (pe_dn D_number_of (rm hr) rfl T.g_number_of (passes_call (takes_of rfl rfl rfl rfl) fun _ _ _ _ h => h) (pa_cons (pv 1) (pa_nil))) (nomark _))), ?_⟩)
  · obtain ⟨a, dx, b, dy, n, m, rfl, _⟩ := h
    rfl
  · obtain ⟨a, dx, b, dy, n, m, rfl, ha, hb, k⟩ := h
    have S : Sh H (fun _ => False) H [(b, .ins (ga K "Moment") dy (mo m), false), (a, .ins (ga K "Moment") dx (mo n), false)] := (Sh.start.know ha (fun _ h => nomatch h)).know hb (fun e h m => by simp at h; rw [h] at m; cases m)
    have t1 := T.cl
    have t2 := T.nN
    (purse 7018 => fail)
    (purse 7012 => fail)
    exact k
theorem ok_ge (F : FnP K "__ge__" "Moment.__ge__" s_Moment___ge__ f fd) (T : TM K mg) (D_number_of : Dn P w K mg base 2 (ga K "number_of") ["value"] (spNum (ga K "Moment"))) :
    FnOk P w K mg base (L2.CX P w) 4 f fd ["self", "other"] (spCmp (ga K "Moment") fun n m => decide (m ≤ n)) := by
  refine F.ok c_Moment___ge__ (fun vs H Q E h => ?_) (fun cdv A outer s H vs Q E hr h => ⟨_, pss_one (ps_ret (pe_cmpR op_ge (pe_fld (pv 0) rfl) (pe_dn D_number_of (rm hr) rfl T.g_number_of (passes_call (takes_of rfl rfl rfl rfl) fun _ _ _ _ h => h) (pa_cons (pv 1) (pa_nil))) (nomark _))), ?_⟩)
  · obtain ⟨a, dx, b, dy, n, m, rfl, _⟩ := h
    rfl
  · obtain ⟨a, dx, b, dy, n, m, rfl, ha, hb, k⟩ := h
    have S : Sh H (fun _ => False) H [(b, .ins (ga K "Moment") dy (mo m), false), (a, .ins (ga K "Moment") dx (mo n), false)] := (Sh.start.know ha (fun _ h => nomatch h)).know hb (fun e h m => by simp at h; rw [h] at m; cases m)
    have t1 := T.cl
    have t2 := T.nN
    (purse 7018 => fail)
    (purse 7012 => fail)
    exact k
theorem ok_eq (F : FnP K "__eq__" "Moment.__eq__" s_Moment___eq__ f fd) (T : TM K mg) : FnOk P w K mg base (L2.CX P w) 4 f fd ["self", "other"] (spEqM (ga K "Moment")) := by
  refine F.ok c_Moment___eq__ (fun vs H Q E h => ?_) (fun cdv A outer s H vs Q E hr h => ⟨_, pss_one (ps_ret (pe_and (pe_callB call_isi (by rfl) T.z_isinstance (by decide +kernel) (pa_cons (pv 1) (pa_cons (pe_glob (v := .ref _) rfl T.g_Moment rfl) (pa_nil)))) (pe_one (pe_cmpR op_eq (pe_fld (pv 0) rfl) (pe_fld (pv 1) rfl) (nomark _))))), ?_⟩)
  · rcases h with ⟨a, dx, b, dy, n, m, rfl, _⟩ | ⟨a, dx, n, g, rfl, _⟩ <;> rfl
  · have t1 := T.cl
    have t2 := T.nN
    rcases h with ⟨a, dx, b, dy, n, m, rfl, ha, hb, k⟩ | ⟨a, dx, n, m, rfl, ha, k⟩
    · have S : Sh H (fun _ => False) H [(b, .ins (ga K "Moment") dy (mo m), false), (a, .ins (ga K "Moment") dx (mo n), false)] := (Sh.start.know ha (fun _ h => nomatch h)).know hb (fun e h m => by simp at h; rw [h] at m; cases m)
      (purse 7018 => fail)
      (purse 7012 => fail)
      exact k
    · (purse 7018 => fail)
      (purse 7012 => fail)
      exact k
end

end K59
namespace K59
open PySem PySem.Spec PyProof.Rows L2 AF
local macro_rules | `(tactic| purse 7003 => fail) => `(tactic| k_dflt (refine Sh.has_ (by assumption) ?_; repeat (first | exact On.here | apply On.next)))
local macro_rules | `(tactic| purse 7004 => fail) => `(tactic| k_dflt (repeat (first | exact On.here | apply On.next)))
local macro_rules | `(tactic| purse 7005 => fail) => `(tactic| (repeat (first | exact Rep.here | apply Rep.next)))
local macro_rules | `(tactic| purse 7006 => fail) => `(tactic| (exact Sh.out (by assumption) (fun b h => by simp [h])))
local macro_rules | `(tactic| purse 7007 => fail) => `(tactic| k_dflt (first | ((with_reducible refine cdivw ?_ ?_) <;> omega) | ((with_reducible show CDiv _ _); constructor <;> omega) | ((with_reducible show CMul _ _); (first | (left; constructor <;> omega) | (right; constructor <;> omega))) | (show (0 : Int) < _; omega)))
local macro_rules | `(tactic| purse 7008 => fail) => `(tactic| first | exact Kd.int _ | exact Kd.bl _ | exact Kd.non | exact Kd.str _ | exact Kd.ins (by (purse 7003 => fail)) | exact Kd.lst (by (purse 7003 => fail)) | exact Kd.tup (by (purse 7003 => fail)))
local macro_rules | `(tactic| purse 7009 => fail) => `(tactic| first | exact DpAll.nil | (apply DpAll.cons; (purse 7010 => fail); (purse 7009 => fail)))
local macro_rules | `(tactic| purse 7010 => fail) => `(tactic| first | exact Dp.int _ | exact Dp.bl _ | exact Dp.non | exact Dp.str _ | (refine dp_int ?_; omega) | (refine dp_bl ?_; simp only [decide_eq_decide]; omega) | (apply dp_lst; (purse 7003 => fail); (purse 7009 => fail)) | (apply dp_tup; (purse 7003 => fail); (purse 7009 => fail)))
local macro_rules | `(tactic| purse 7011 => fail) => `(tactic| first | assumption | omega)
local macro_rules | `(tactic| purse 7001 => fail) => `(tactic| fail "no use")
local macro_rules | `(tactic| purse 7002 => fail) => `(tactic| first
  | (with_reducible refine set_go ?_)
  | (with_reducible refine Step.go ?_)
  | (with_reducible first | refine g_pow10_6 ?_ | refine g_pow10_7 ?_ | refine g_pow10_18 ?_ | refine g_pow10_29 ?_ | refine g_pow10_30 ?_)
  | ((with_reducible refine' g_I ?a0 ?_); (case a0 => (purse 7007 => fail)))
  | ((with_reducible refine' g_ixL ?a0 ?a1 ?_); (case a0 => (purse 7003 => fail)); (case a1 => k_dflt (exact rfl)))
  | ((with_reducible refine' g_kfld ?a0 ?a1 ?a2 ?a3 ?_); (case a0 => (purse 7003 => fail)); (case a1 => k_dflt (assumption)); (case a2 => k_dflt (assumption)); (case a3 => k_dflt (exact rfl)))
  | ((with_reducible refine' g_kprop ?a0 ?_); (case a0 => (purse 7003 => fail)))
  | ((with_reducible refine' g_kmeth ?a0 ?a1 ?_); (case a0 => (purse 7003 => fail)); (case a1 => k_dflt (exact rfl)))
  | ((with_reducible refine' g_own ?a0 ?a1 ?a2 ?_); (case a0 => (purse 7003 => fail)); (case a1 => (purse 7008 => fail)); (case a2 => k_dflt (assumption)))
  | ((with_reducible refine' g_cmp ?a0 ?a1 ?a2 ?_); (case a0 => (purse 7003 => fail)); (case a1 => (purse 7008 => fail)); (case a2 => k_dflt (assumption)))
  | ((with_reducible refine' g_neq ?a0 ?a1 ?a2 ?_); (case a0 => (purse 7003 => fail)); (case a1 => (purse 7008 => fail)); (case a2 => k_dflt (assumption)))
  | ((with_reducible refine' g_right ?a0 ?_); (case a0 => (purse 7003 => fail)))
  | ((with_reducible refine' use_draw ?a0 ?a1 ?a2 ?a3 ?a4 ?_); (case a0 => assumption); (case a1 => intro _ _; (purse 7005 => fail)); (case a2 => assumption); (case a3 => (purse 7011 => fail)); (case a4 => (purse 7011 => fail)); intro _ _ _ _ _ _ _ _)
  | ((with_reducible refine' use_giveI ?a0 ?a1 ?a2 ?_); (case a0 => assumption); (case a1 => intro _ _; (purse 7005 => fail)); (case a2 => assumption); intro _ _ _ _ _ _ _ _)
  | ((with_reducible refine' use_source ?a0 ?a1 ?_); (case a0 => assumption); (case a1 => k_dflt (assumption)); intro _ _ _ _ _ _)
  | (with_reducible refine g_absN ?_; intro _ _)
  | (with_reducible refine g_maxN ?_; intro _ _ _ _)
  | (with_reducible refine g_minN ?_; intro _ _ _ _)
  | ((with_reducible refine' g_kR1 ?a0 ?a1 ?_); (case a0 => omega); (case a1 => omega))
  | ((with_reducible refine' g_neD ?a0 ?a1 ?a2 ?_); (case a0 => (purse 7010 => fail)); (case a1 => (purse 7010 => fail)); (case a2 => k_dflt (rfl)))
  | ((with_reducible refine' g_eqD ?a0 ?a1 ?a2 ?_); (case a0 => (purse 7010 => fail)); (case a1 => (purse 7010 => fail)); (case a2 => k_dflt (rfl)))
  | ((with_reducible refine' g_klst ?a0 ?a1 ?_); (case a0 => assumption); (case a1 => k_dflt (exact rfl)); intro _ _ _ _)
  | ((with_reducible refine' g_ktup ?a0 ?a1 ?_); (case a0 => assumption); (case a1 => k_dflt (exact rfl)); intro _ _ _ _)
  | ((with_reducible refine' g_setL ?a0 ?a1 ?a2 ?_); (case a0 => assumption); (case a1 => (purse 7005 => fail)); (case a2 => k_dflt (exact rfl)); intro _ _)
  | ((with_reducible refine' g_unl3 ?a0 ?_); (case a0 => (purse 7003 => fail)))
  | (purse 7001 => fail))
local macro_rules | `(tactic| purse 7012 => fail) => `(tactic| ((try (with_reducible refine start_go ?_)); repeat (purse 7002 => fail)))
local macro_rules | `(tactic| purse 7013 => fail) => `(tactic| first | rfl | (refine decide_eq_true ?_; omega) | (simp only [Bool.not_eq_true', Bool.not_eq_false', decide_eq_false_iff_not, decide_eq_true_eq, Bool.not_not, decide_eq_decide]; done) | (simp only [Bool.not_eq_true', Bool.not_eq_false', decide_eq_false_iff_not, decide_eq_true_eq, Bool.not_not, decide_eq_decide]; omega))
local macro_rules | `(tactic| purse 7014 => fail) => `(tactic| first | rfl | (refine decide_eq_false ?_; omega) | (simp only [Bool.not_eq_true', Bool.not_eq_false', decide_eq_false_iff_not, decide_eq_true_eq, Bool.not_not, decide_eq_decide]; done) | (simp only [Bool.not_eq_true', Bool.not_eq_false', decide_eq_false_iff_not, decide_eq_true_eq, Bool.not_not, decide_eq_decide]; omega))
local macro_rules | `(tactic| purse 7015 => fail) => `(tactic| ((refine g_yes ?h ?_); (case h => (purse 7013 => fail))))
local macro_rules | `(tactic| purse 7016 => fail) => `(tactic| ((refine g_no ?h ?_); (case h => (purse 7014 => fail))))
local macro_rules | `(tactic| purse 7017 => fail) => `(tactic| first | (purse 7015 => fail) | (purse 7016 => fail))
local macro_rules | `(tactic| purse 7018 => fail) => `(tactic| repeat ((purse 7012 => fail); (purse 7017 => fail)))
local macro_rules | `(tactic| purse 7019 => fail) => `(tactic| repeat (first | exact intIn_nil | refine intIn_cons (by omega) (by omega) ?_))
local macro_rules | `(tactic| purse 7020 => fail) => `(tactic| (simp only [List.length_cons, List.length_nil]; omega))
local macro_rules | `(tactic| purse 7021 => fail) => `(tactic| (refine g_two (fun c => ?_) (fun c => ?_) <;> first | (have c := of_decide_eq_true c) | (have c := of_decide_eq_false c) | skip))
local macro_rules | `(tactic| purse 7022 => fail) => `(tactic| ((purse 7018 => fail); (purse 7012 => fail); try ((purse 7021 => fail) <;> (purse 7022 => fail))))

/-! the law's helpers -/
structure TL (K : PySem.W.Frag) (mg : Str → Option Value) : Prop where
  z_int : mg "int" = none
  z_abs : mg "abs" = none
  z_len : mg "len" = none
section
open He
variable {P : Program} {w : World} {K : PySem.W.Frag} {mg : Str → Option Value} {base : Heap} {f : Addr} {fd : FuncData}
theorem ok_draw (F : FunD K "_law_draw" "_law_draw" (defArgs s_law_draw) (defBody s_law_draw) (defScope s_law_draw) [] [] f fd) (T : TL K mg) : FnOk P w K mg base (L2.CX P w) 2 f fd ["source", "amount"] spDraw := by
  refine F.ok c_law_draw (fun vs H Q E h => ?_) (fun cdv A outer s H vs Q E hr h => ⟨_, pss_cons (ps_if (pt_cmpR op_gt (pe_ix ix_list (pv 0) (pe_int) (fun _ _ => rfl)) (pe_int) (nomark _))
      (pss_cons (ps_set (i := 2) c_law_draw.nd rfl (Or.inl rfl) (pe_op op_mod (pe_callTy cl_int (by rfl) T.z_int (by decide +kernel) (pa_cons (pe_ix ix_list (pv 0) (pe_int) (fun _ _ => rfl)) (pa_nil))) (pv 1)))
      (pss_cons (ps_asg (pe_op op_fdivW (pe_ix ix_list (pv 0) (pe_int) (fun _ _ => rfl)) (pv 1)) (pg_sub (pv 0) (pe_int) set_list))
      (pss_one (ps_ret (pv 2)))))
      (pss_nil))
      (pss_cons (ps_asg (pe_op op_mod (pe_callTy cl_int (by rfl) T.z_int (by decide +kernel) (pa_cons (pe_op op_add (pe_op op_mul (pe_ix ix_list (pv 0) (pe_int) (fun _ _ => rfl)) (pe_int)) (pe_int)) (pa_nil))) (pe_int)) (pg_sub (pv 0) (pe_int) set_list))
      (pss_cons (ps_set (i := 3) c_law_draw.nd rfl (Or.inl rfl) (pe_op op_fdiv (pe_op op_mod (pe_callTy cl_int (by rfl) T.z_int (by decide +kernel) (pa_cons (pe_op op_mul (pe_ix ix_list (pv 0) (pe_int) (fun _ _ => rfl)) (pe_ix ix_list (pv 0) (pe_int) (fun _ _ => rfl))) (pa_nil))) (pe_int)) (pe_int)))
      (pss_cons (ps_if (pt_cmpR op_gt (pv 1) (pe_op op_pow (pe_int) (pe_int)) (nomark _))
      (pss_cons (ps_asg (pe_op op_mod (pe_callTy cl_int (by rfl) T.z_int (by decide +kernel) (pa_cons (pe_op op_add (pe_op op_mul (pe_ix ix_list (pv 0) (pe_int) (fun _ _ => rfl)) (pe_int)) (pe_int)) (pa_nil))) (pe_int)) (pg_sub (pv 0) (pe_int) set_list))
      (pss_one (ps_set (i := 3) c_law_draw.nd rfl (Or.inl rfl) (pe_op op_add (pe_op op_mul (pv 3) (pe_int)) (pe_op op_fdiv (pe_op op_mod (pe_callTy cl_int (by rfl) T.z_int (by decide +kernel) (pa_cons (pe_op op_mul (pe_ix ix_list (pv 0) (pe_int) (fun _ _ => rfl)) (pe_ix ix_list (pv 0) (pe_int) (fun _ _ => rfl))) (pa_nil))) (pe_int)) (pe_int))))))
      (pss_nil))
      (pss_one (ps_ret (pe_op op_mod (pe_callTy cl_int (by rfl) T.z_int (by decide +kernel) (pa_cons (pv 3) (pa_nil))) (pv 1))))))), ?_⟩)
  · obtain ⟨a, n, s, m, rfl, _⟩ := h
    rfl
  · obtain ⟨a, n, s, m, rfl, ha, hs, h1, h2, k⟩ := h
    have S : Sh H (fun b => b = a) H [(a, .lst [.int n, .int s], true)] := Sh.start.take ha rfl (fun _ h => nomatch h)
    obtain ⟨s0, s1, s2⟩ := hs
    (purse 7012 => fail)
    refine g_two (fun c => ?_) (fun c => ?_)
    · have c := of_decide_eq_true c
      (purse 7012 => fail)
      refine k _ _ _ _ (by (purse 7006 => fail)) (by (purse 7003 => fail)) ?_ ?_ ?_
      · exact Int.emod_nonneg _ (by omega)
      · exact Int.emod_lt_of_pos _ (by omega)
      · exact ⟨Int.ediv_nonneg s0 (by omega), s1, s2⟩
    · (purse 7012 => fail)
      refine g_two (fun c2 => ?_) (fun c2 => ?_)
      · (purse 7012 => fail)
        refine k _ _ _ _ (by (purse 7006 => fail)) (by (purse 7003 => fail)) ?_ ?_ ?_
        · exact Int.emod_nonneg _ (by omega)
        · exact Int.emod_lt_of_pos _ (by omega)
        · exact ⟨s0, Int.emod_nonneg _ (by omega), Int.emod_lt_of_pos _ (by omega)⟩
      · (purse 7012 => fail)
        refine k _ _ _ _ (by (purse 7006 => fail)) (by (purse 7003 => fail)) ?_ ?_ ?_
        · exact Int.emod_nonneg _ (by omega)
        · exact Int.emod_lt_of_pos _ (by omega)
        · exact ⟨s0, Int.emod_nonneg _ (by omega), Int.emod_lt_of_pos _ (by omega)⟩
theorem ok_source (F : FunD K "_law_source" "_law_source" (defArgs s_law_source) (defBody s_law_source) (defScope s_law_source) [] [] f fd) (T : TL K mg) : FnOk P w K mg base (L2.CX P w) 2 f fd ["script", "turn"] (spSource K) := by
  refine F.ok c_law_source (fun vs H Q E h => ?_) (fun cdv A outer s H vs Q E hr h => ⟨_, pss_cons (ps_set (i := 2) c_law_source.nd rfl (Or.inl rfl) (pe_int))
      (pss_cons (ps_if (pt_cmpR op_lt (pv 1) (pe_callB cl_len (by rfl) T.z_len (by decide +kernel) (pa_cons (pv 0) (pa_nil))) (nomark _))
      (pss_one (ps_set (i := 2) c_law_source.nd rfl (Or.inl rfl) (pe_ix ix_list (pv 0) (pv 1) (fun _ _ => rfl))))
      (pss_nil))
      (pss_cons (ps_set (i := 3) c_law_source.nd rfl (Or.inl rfl) (pe_callB cl_abs (by rfl) T.z_abs (by decide +kernel) (pa_cons (pv 2) (pa_nil))))
      (pss_cons (ps_set (i := 4) c_law_source.nd rfl (Or.inl rfl) (pe_op op_mod (pe_callTy cl_int (by rfl) T.z_int (by decide +kernel) (pa_cons (pe_op op_add (pe_op op_add (pe_op op_mul (pe_op op_mod (pe_callTy cl_int (by rfl) T.z_int (by decide +kernel) (pa_cons (pv 3) (pa_nil))) (pe_int)) (pe_int)) (pe_op op_mul (pe_int) (pv 1))) (pe_int)) (pa_nil))) (pe_int)))
      (pss_cons (ps_if (pt_cmpR op_lt (pv 3) (pe_op op_pow (pe_int) (pe_int)) (nomark _))
      (pss_one (ps_set (i := 3) c_law_source.nd rfl (Or.inl rfl) (pe_int)))
      (pss_nil))
      (pss_one (ps_ret (pe_lst (pa_cons (pv 3) (pa_cons (pv 4) (pa_nil)))))))))), ?_⟩)
  · obtain ⟨a, ns, t, rfl, _⟩ := h
    rfl
  · obtain ⟨a, ns, t, rfl, hS, k⟩ := h
    have S : Sh H (fun _ => False) H [] := Sh.start
    have fin : ∀ {q : Addr} {n s : Int} {H' : Hp} {l : List Ent}, Sh H (fun _ => False) H' ((q, .lst [.int n, .int (s % 2147483647)], true) :: l) → 0 ≤ n → Q (.ref q) H' := fun {q n s H' l} S' h0 =>
      k q n _ H' ((S'.mu _ List.mem_cons_self rfl).elim False.elim id) (S'.out fun _ h => h.elim) (S'.has_ .here) ⟨h0, Int.emod_nonneg _ (by omega), Int.emod_lt_of_pos _ (by omega)⟩
    (purse 7012 => fail)
    refine g_lenL hS ?_
    (purse 7012 => fail)
    refine g_two (fun c => ?_) (fun c => ?_)
    · have c := of_decide_eq_true c
      (purse 7012 => fail)
      obtain ⟨v, hv, e⟩ := atI_some (xs := ns.map V.int) (i := (t : Int)) (by omega) c
      obtain ⟨z, _, rfl⟩ := List.mem_map.mp hv
      refine g_ixQ hS e ?_
      (purse 7012 => fail)
      refine g_two (fun c2 => ?_) (fun c2 => ?_)
      · (purse 7012 => fail)
        refine fin (by assumption) ?_; omega
      · (purse 7012 => fail)
        refine fin (by assumption) ?_; omega
    · (purse 7012 => fail)
      refine g_two (fun c2 => ?_) (fun c2 => ?_)
      · (purse 7012 => fail)
        refine fin (by assumption) ?_; omega
      · (purse 7012 => fail)
        refine fin (by assumption) ?_; omega
end

end K59
namespace K59
open PySem PySem.Spec PyProof.Rows L2 AF
local macro_rules | `(tactic| purse 7003 => fail) => `(tactic| k_dflt (refine Sh.has_ (by assumption) ?_; repeat (first | exact On.here | apply On.next)))
local macro_rules | `(tactic| purse 7004 => fail) => `(tactic| k_dflt (repeat (first | exact On.here | apply On.next)))
local macro_rules | `(tactic| purse 7005 => fail) => `(tactic| (repeat (first | exact Rep.here | apply Rep.next)))
local macro_rules | `(tactic| purse 7006 => fail) => `(tactic| (exact Sh.out (by assumption) (fun b h => by simp [h])))
local macro_rules | `(tactic| purse 7007 => fail) => `(tactic| k_dflt (first | ((with_reducible refine cdivw ?_ ?_) <;> omega) | ((with_reducible show CDiv _ _); constructor <;> omega) | ((with_reducible show CMul _ _); (first | (left; constructor <;> omega) | (right; constructor <;> omega))) | (show (0 : Int) < _; omega)))
local macro_rules | `(tactic| purse 7008 => fail) => `(tactic| first | exact Kd.int _ | exact Kd.bl _ | exact Kd.non | exact Kd.str _ | exact Kd.ins (by (purse 7003 => fail)) | exact Kd.lst (by (purse 7003 => fail)) | exact Kd.tup (by (purse 7003 => fail)))
local macro_rules | `(tactic| purse 7009 => fail) => `(tactic| first | exact DpAll.nil | (apply DpAll.cons; (purse 7010 => fail); (purse 7009 => fail)))
local macro_rules | `(tactic| purse 7010 => fail) => `(tactic| first | exact Dp.int _ | exact Dp.bl _ | exact Dp.non | exact Dp.str _ | (refine dp_int ?_; omega) | (refine dp_bl ?_; simp only [decide_eq_decide]; omega) | (apply dp_lst; (purse 7003 => fail); (purse 7009 => fail)) | (apply dp_tup; (purse 7003 => fail); (purse 7009 => fail)))
local macro_rules | `(tactic| purse 7011 => fail) => `(tactic| first | assumption | omega)
local macro_rules | `(tactic| purse 7001 => fail) => `(tactic| fail "no use")
local macro_rules | `(tactic| purse 7002 => fail) => `(tactic| first
  | (with_reducible refine set_go ?_)
  | (with_reducible refine Step.go ?_)
  | (with_reducible first | refine g_pow10_6 ?_ | refine g_pow10_7 ?_ | refine g_pow10_18 ?_ | refine g_pow10_29 ?_ | refine g_pow10_30 ?_)
  | ((with_reducible refine' g_I ?a0 ?_); (case a0 => (purse 7007 => fail)))
  | ((with_reducible refine' g_ixL ?a0 ?a1 ?_); (case a0 => (purse 7003 => fail)); (case a1 => k_dflt (exact rfl)))
  | ((with_reducible refine' g_kfld ?a0 ?a1 ?a2 ?a3 ?_); (case a0 => (purse 7003 => fail)); (case a1 => k_dflt (assumption)); (case a2 => k_dflt (assumption)); (case a3 => k_dflt (exact rfl)))
  | ((with_reducible refine' g_kprop ?a0 ?_); (case a0 => (purse 7003 => fail)))
  | ((with_reducible refine' g_kmeth ?a0 ?a1 ?_); (case a0 => (purse 7003 => fail)); (case a1 => k_dflt (exact rfl)))
  | ((with_reducible refine' g_own ?a0 ?a1 ?a2 ?_); (case a0 => (purse 7003 => fail)); (case a1 => (purse 7008 => fail)); (case a2 => k_dflt (assumption)))
  | ((with_reducible refine' g_cmp ?a0 ?a1 ?a2 ?_); (case a0 => (purse 7003 => fail)); (case a1 => (purse 7008 => fail)); (case a2 => k_dflt (assumption)))
  | ((with_reducible refine' g_neq ?a0 ?a1 ?a2 ?_); (case a0 => (purse 7003 => fail)); (case a1 => (purse 7008 => fail)); (case a2 => k_dflt (assumption)))
  | ((with_reducible refine' g_right ?a0 ?_); (case a0 => (purse 7003 => fail)))
  | ((with_reducible refine' use_draw ?a0 ?a1 ?a2 ?a3 ?a4 ?_); (case a0 => assumption); (case a1 => intro _ _; (purse 7005 => fail)); (case a2 => assumption); (case a3 => (purse 7011 => fail)); (case a4 => (purse 7011 => fail)); intro _ _ _ _ _ _ _ _)
  | ((with_reducible refine' use_giveI ?a0 ?a1 ?a2 ?_); (case a0 => assumption); (case a1 => intro _ _; (purse 7005 => fail)); (case a2 => assumption); intro _ _ _ _ _ _ _ _)
  | ((with_reducible refine' use_source ?a0 ?a1 ?_); (case a0 => assumption); (case a1 => k_dflt (assumption)); intro _ _ _ _ _ _)
  | (with_reducible refine g_absN ?_; intro _ _)
  | (with_reducible refine g_maxN ?_; intro _ _ _ _)
  | (with_reducible refine g_minN ?_; intro _ _ _ _)
  | ((with_reducible refine' g_kR1 ?a0 ?a1 ?_); (case a0 => omega); (case a1 => omega))
  | ((with_reducible refine' g_neD ?a0 ?a1 ?a2 ?_); (case a0 => (purse 7010 => fail)); (case a1 => (purse 7010 => fail)); (case a2 => k_dflt (rfl)))
  | ((with_reducible refine' g_eqD ?a0 ?a1 ?a2 ?_); (case a0 => (purse 7010 => fail)); (case a1 => (purse 7010 => fail)); (case a2 => k_dflt (rfl)))
  | ((with_reducible refine' g_klst ?a0 ?a1 ?_); (case a0 => assumption); (case a1 => k_dflt (exact rfl)); intro _ _ _ _)
  | ((with_reducible refine' g_ktup ?a0 ?a1 ?_); (case a0 => assumption); (case a1 => k_dflt (exact rfl)); intro _ _ _ _)
  | ((with_reducible refine' g_setL ?a0 ?a1 ?a2 ?_); (case a0 => assumption); (case a1 => (purse 7005 => fail)); (case a2 => k_dflt (exact rfl)); intro _ _)
  | ((with_reducible refine' g_unl3 ?a0 ?_); (case a0 => (purse 7003 => fail)))
  | (purse 7001 => fail))
local macro_rules | `(tactic| purse 7012 => fail) => `(tactic| ((try (with_reducible refine start_go ?_)); repeat (purse 7002 => fail)))
local macro_rules | `(tactic| purse 7013 => fail) => `(tactic| first | rfl | (refine decide_eq_true ?_; omega) | (simp only [Bool.not_eq_true', Bool.not_eq_false', decide_eq_false_iff_not, decide_eq_true_eq, Bool.not_not, decide_eq_decide]; done) | (simp only [Bool.not_eq_true', Bool.not_eq_false', decide_eq_false_iff_not, decide_eq_true_eq, Bool.not_not, decide_eq_decide]; omega))
local macro_rules | `(tactic| purse 7014 => fail) => `(tactic| first | rfl | (refine decide_eq_false ?_; omega) | (simp only [Bool.not_eq_true', Bool.not_eq_false', decide_eq_false_iff_not, decide_eq_true_eq, Bool.not_not, decide_eq_decide]; done) | (simp only [Bool.not_eq_true', Bool.not_eq_false', decide_eq_false_iff_not, decide_eq_true_eq, Bool.not_not, decide_eq_decide]; omega))
local macro_rules | `(tactic| purse 7015 => fail) => `(tactic| ((refine g_yes ?h ?_); (case h => (purse 7013 => fail))))
local macro_rules | `(tactic| purse 7016 => fail) => `(tactic| ((refine g_no ?h ?_); (case h => (purse 7014 => fail))))
local macro_rules | `(tactic| purse 7017 => fail) => `(tactic| first | (purse 7015 => fail) | (purse 7016 => fail))
local macro_rules | `(tactic| purse 7018 => fail) => `(tactic| repeat ((purse 7012 => fail); (purse 7017 => fail)))
local macro_rules | `(tactic| purse 7019 => fail) => `(tactic| repeat (first | exact intIn_nil | refine intIn_cons (by omega) (by omega) ?_))
local macro_rules | `(tactic| purse 7020 => fail) => `(tactic| (simp only [List.length_cons, List.length_nil]; omega))
local macro_rules | `(tactic| purse 7021 => fail) => `(tactic| (refine g_two (fun c => ?_) (fun c => ?_) <;> first | (have c := of_decide_eq_true c) | (have c := of_decide_eq_false c) | skip))
local macro_rules | `(tactic| purse 7022 => fail) => `(tactic| ((purse 7018 => fail); (purse 7012 => fail); try ((purse 7021 => fail) <;> (purse 7022 => fail))))

/-! the law -/
open He in
structure TW (K : PySem.W.Frag) (mg : Str → Option Value) : Prop extends TM K mg, TL K mg where
  z_range : mg "range" = none
  z_max : mg "max" = none
  z_min : mg "min" = none
  g_law_source : mg "_law_source" = some (.ref (ga K "_law_source"))
  g_law_draw : mg "_law_draw" = some (.ref (ga K "_law_draw"))
  g_law_rounds : mg "_law_rounds" = some (.ref (ga K "_law_rounds"))
  br : BinR K .Add (ga K "Moment") (ma K (ga K "Moment") "__radd__")
  bs : Bin K .Sub (ga K "Moment") (ma K (ga K "Moment") "__sub__")
  bsi : Beside K .Sub (ga K "Moment") (.type "int")
  clt : Cmp K .Lt (ga K "Moment") (ma K (ga K "Moment") "__lt__")
  cle : Cmp K .LtE (ga K "Moment") (ma K (ga K "Moment") "__le__")
  cgt : Cmp K .Gt (ga K "Moment") (ma K (ga K "Moment") "__gt__")
  cge : Cmp K .GtE (ga K "Moment") (ma K (ga K "Moment") "__ge__")
  ceq : Cmp K .Eq (ga K "Moment") (ma K (ga K "Moment") "__eq__")
  cne : NeC K (ga K "Moment") (ma K (ga K "Moment") "__eq__")
  nfi : PySem.W.notFirst K (ga K "Moment") (.type "int") = true
  nfm : PySem.W.notFirst K (ga K "Moment") (.ref (ga K "Moment")) = true
def spLaw (K : PySem.W.Frag) : Sp := fun vs H Q _ => ∃ (a : Addr) (ns : List Int), vs = [.ref a] ∧ SqL K H a (ns.map V.int) ∧ ns.length ≤ 63 ∧ ∀ H', Q (.bl true) H'
theorem down_bd (n g : Int) (h : 1 ≤ g) : n - g < n / g * g ∧ n / g * g ≤ n ∧ n / g * g = n - n % g := by
  have e1 := Int.emod_add_mul_ediv n g
  have e2 := Int.emod_nonneg n (show g ≠ 0 by omega)
  have e3 := Int.emod_lt_of_pos n (show 0 < g by omega)
  have e4 : n / g * g = g * (n / g) := Int.mul_comm _ _
  omega
theorem down_twice (n g : Int) (h : 1 ≤ g) : n / g * g / g * g = n / g * g ∧ n / g * g % g = 0 := by
  have e : n / g * g / g = n / g := Int.mul_ediv_cancel _ (by omega)
  exact ⟨by rw [e], Int.mul_emod_left _ _⟩
theorem down_sum (n k g : Int) (h : 1 ≤ g) : (n + k * g) / g * g = n / g * g + k * g := by
  rw [Int.add_mul_ediv_right _ _ (by omega), Int.add_mul]
theorem down_mono (n m g : Int) (h : 1 ≤ g) (hm : n ≤ m) : n / g * g ≤ m / g * g := Int.mul_le_mul_of_nonneg_right (Int.ediv_le_ediv (by omega) hm) (by omega)
theorem step_bd (d g : Int) (h1 : 0 ≤ d) (h2 : d < 100) (h3 : 1 ≤ g) (h4 : g ≤ 1000000) : -50000000 ≤ (d - 50) * g ∧ (d - 50) * g ≤ 49000000 := by
  constructor
  · have := Int.mul_le_mul_of_nonneg_right (show (-50 : Int) ≤ d - 50 by omega) (show 0 ≤ g by omega)
    omega
  · have := Int.mul_le_mul_of_nonneg_right (show d - 50 ≤ (49 : Int) by omega) (show 0 ≤ g by omega)
    omega
theorem use_seenB {H0 : Hp} {M : Addr → Prop} {H : Hp} {l : List Ent} {C a dx : Addr} {E : XK} {Q : VK} {n g : Int} (S : Sh H0 M H l) (o : On l a (.ins C dx (mo n))) (h1 : 1 ≤ g) (h2 : g ≤ 1000000) (h3 : -900000000000000000000000000000 ≤ n) (h4 : n ≤ 900000000000000000000000000000)
    (q : n - g < n / g * g → n / g * g ≤ n → n / g * g / g * g = n / g * g → n / g * g % g = 0 → ∀ x dx H', Sh H0 M H' ((x, .ins C dx (mo (n / g * g)), true) :: l) → Q (.ref x) H') : spSeen C [.ref a, .int g] H Q E := by
  have e := down_bd n g h1
  have e2 := down_twice n g h1
  exact use_seen S o h1 h2 (by omega) (by omega) (q e.1 e.2.1 e2.1 e2.2)
theorem use_plusG {H0 : Hp} {M : Addr → Prop} {H : Hp} {l : List Ent} {C a dx : Addr} {E : XK} {Q : VK} {n d g : Int} (S : Sh H0 M H l) (o : On l a (.ins C dx (mo n))) (h1 : 0 ≤ d) (h2 : d < 100) (h3 : 1 ≤ g) (h4 : g ≤ 1000000) (h5 : -900000000000000000000000000000 ≤ n) (h6 : n ≤ 900000000000000000000000000000)
    (q : -50000000 ≤ (d - 50) * g → (d - 50) * g ≤ 49000000 → (n + (d - 50) * g) / g * g = n / g * g + (d - 50) * g → ∀ x dx H', Sh H0 M H' ((x, .ins C dx (mo (n + (d - 50) * g)), true) :: l) → Q (.ref x) H') : spPlus C (fun n k => n + k) [.ref a, .int ((d - 50) * g)] H Q E := by
  have e := step_bd d g h1 h2 h3 h4
  exact use_plus S o (by omega) (by omega) (q e.1 e.2 (down_sum n (d - 50) g h3))
theorem count_three (n m : Int) : ([decide (n < m), decide (n = m), decide (m < n)] : List Bool).count true = 1 := by
  rcases Int.lt_trichotomy n m with h | h | h
  · rw [decide_eq_true h, decide_eq_false (by omega), decide_eq_false (by omega)]; rfl
  · rw [decide_eq_false (by omega), decide_eq_true h, decide_eq_false (by omega)]; rfl
  · rw [decide_eq_false (by omega), decide_eq_false (by omega), decide_eq_true h]; rfl
theorem g_cntT {H0 : Hp} {M : Addr → Prop} {l : List Ent} {σ : L2.St} {H : Hp} {Q : VK} {K : PySem.W.Frag} {p : Addr} {n m : Int} (S : Sh H0 M H l) (o : On l p (.lst [.bl (decide (n < m)), .bl (decide (n = m)), .bl (decide (m < n))]))
    (q : Q (.int 1) H) : kBM K "list" (rCntB K) (tCons (tC (.bl true)) tNil) σ Q (.ref p) H :=
  g_cnt3 S o (by rw [count_three]; exact q)
local macro_rules | `(tactic| purse 7001 => fail) => `(tactic| first
  | ((with_reducible refine' g_cntT ?a0 ?a1 ?_); (case a0 => assumption); (case a1 => (purse 7004 => fail)))
  | ((with_reducible refine' use_seenB ?a0 ?a1 ?a2 ?a3 ?a4 ?a5 ?_); (case a0 => assumption); (case a1 => (purse 7004 => fail)); (case a2 => omega); (case a3 => omega); (case a4 => omega); (case a5 => omega); intro _ _ _ _ _ _ _ _)
  | ((with_reducible refine' use_plusG ?a0 ?a1 ?a2 ?a3 ?a4 ?a5 ?a6 ?a7 ?_); (case a0 => assumption); (case a1 => (purse 7004 => fail)); (case a2 => omega); (case a3 => omega); (case a4 => omega); (case a5 => omega); (case a6 => omega); (case a7 => omega); intro _ _ _ _ _ _ _)
  | ((with_reducible refine' use_sec ?a0 ?a1 ?_); (case a0 => assumption); (case a1 => (purse 7004 => fail)))
  | ((with_reducible refine' use_cmp ?a0 ?a1 ?a2 ?_); (case a0 => assumption); (case a1 => (purse 7004 => fail)); (case a2 => (purse 7004 => fail)))
  | ((with_reducible refine' use_eqM ?a0 ?a1 ?a2 ?_); (case a0 => assumption); (case a1 => (purse 7004 => fail)); (case a2 => (purse 7004 => fail)))
  | ((with_reducible refine' use_eqI ?a0 ?a1 ?_); (case a0 => assumption); (case a1 => (purse 7004 => fail)))
  | ((with_reducible refine' use_num ?a0 ?a1 ?_); (case a0 => assumption); (case a1 => (purse 7004 => fail)))
  | (with_reducible refine use_whole ?_)
  | ((with_reducible refine' use_ismo ?a0 ?a1 ?_); (case a0 => (purse 7011 => fail)); (case a1 => (purse 7011 => fail)))
  | ((with_reducible refine' use_subM ?a0 ?a1 ?a2 ?_); (case a0 => assumption); (case a1 => (purse 7004 => fail)); (case a2 => (purse 7004 => fail)))
  | ((with_reducible refine' g_mkmo ?a0 ?a1 ?a2 ?_); (case a0 => assumption); (case a1 => (purse 7011 => fail)); (case a2 => (purse 7011 => fail)); intro _ _ _ _)
  | ((with_reducible refine' use_seen ?a0 ?a1 ?a2 ?a3 ?a4 ?a5 ?_); (case a0 => assumption); (case a1 => (purse 7004 => fail)); (case a2 => (purse 7011 => fail)); (case a3 => (purse 7011 => fail)); (case a4 => (purse 7011 => fail)); (case a5 => (purse 7011 => fail)); intro _ _ _ _)
  | ((with_reducible refine' use_plus ?a0 ?a1 ?a2 ?a3 ?_); (case a0 => assumption); (case a1 => (purse 7004 => fail)); (case a2 => (purse 7011 => fail)); (case a3 => (purse 7011 => fail)); intro _ _ _ _)
  | ((with_reducible refine' use_subI ?a0 ?a1 ?a2 ?a3 ?_); (case a0 => assumption); (case a1 => (purse 7004 => fail)); (case a2 => (purse 7011 => fail)); (case a3 => (purse 7011 => fail)); intro _ _ _ _)
  | ((with_reducible refine' isi_mm ?e ?a0 ?a1 ?a2 ?_); (case e => k_dflt rfl); (case a0 => assumption); (case a1 => assumption); (case a2 => (purse 7004 => fail)))
  | ((with_reducible refine' isi_im ?e ?a0 ?_); (case e => k_dflt rfl); (case a0 => assumption)))

def spRounds (C : Addr) : Sp := fun vs H Q _ => ∃ (a p dp q dq : Addr) (n s x y : Int), vs = [.ref a, .ref p, .ref q] ∧ H a = some (.lst [.int n, .int s]) ∧ H p = some (.ins C dp (mo x)) ∧ H q = some (.ins C dq (mo y)) ∧ Sd n s ∧ (-100000000000000000000000000000 ≤ x ∧ x ≤ 100000000000000000000000000000) ∧
  (-100000000000000000000000000000 ≤ y ∧ y ≤ 100000000000000000000000000000) ∧ ∀ (n' s' : Int) (H' : Hp), Ch [a] H H' → H' a = some (.lst [.int n', .int s']) → Sd n' s' → Q (.bl true) H'
section
open He
variable {P : Program} {w : World} {K : PySem.W.Frag} {mg : Str → Option Value} {base : Heap} {f : Addr} {fd : FuncData}
theorem ok_rounds (F : FnP K "_law_rounds" "_law_rounds" s_law_rounds f fd) (T : TW K mg) (D_law_draw : Dn P w K mg base 2 (ga K "_law_draw") ["source", "amount"] spDraw)
    (R_seconds : Rn P w K mg base 2 (ga K "Moment") "seconds" (spSec (ga K "Moment"))) (H_seen : Hn P w K mg base 9 (ga K "Moment") "seen" (spSeen (ga K "Moment")))
    (D_add : Dn P w K mg base 9 (ma K (ga K "Moment") "__add__") ["self", "other"] (spPlus (ga K "Moment") fun n k => n + k)) (D_sub : Dn P w K mg base 9 (ma K (ga K "Moment") "__sub__") ["self", "other"] (spSub (ga K "Moment")))
    (D_le : Dn P w K mg base 4 (ma K (ga K "Moment") "__le__") ["self", "other"] (spCmp (ga K "Moment") fun n m => decide (n ≤ m)))
    (D_eq : Dn P w K mg base 4 (ma K (ga K "Moment") "__eq__") ["self", "other"] (spEqM (ga K "Moment"))) :
    FnOk P w K mg base (L2.CX P w) 12 f fd ["source", "a", "b"] (spRounds (ga K "Moment")) := by
  refine F.ok c_law_rounds (fun vs H Q E h => ?_) (fun cdv A outer s H vs Q E hr h => ⟨_, pss_cons (ps_set (i := 3) c_law_rounds.nd rfl (Or.inl rfl) (pe_op op_add (pe_int) (pe_dn D_law_draw (rm hr) rfl T.g_law_draw (passes_call (takes_of rfl rfl rfl rfl) fun _ _ _ _ h => h) (pa_cons (pv 0) (pa_cons (pe_ix ix_list (pe_lst (pa_cons (pe_int) (pa_cons (pe_op op_pow (pe_int) (pe_int)) (pa_nil)))) (pe_dn D_law_draw (rm hr) rfl T.g_law_draw (passes_call (takes_of rfl rfl rfl rfl) fun _ _ _ _ h => h) (pa_cons (pv 0) (pa_cons (pe_int) (pa_nil)))) (fun _ _ => rfl)) (pa_nil))))))
      (pss_cons (ps_set (i := 4) c_law_rounds.nd rfl (Or.inl rfl) (pe_dm H_seen (rm hr) (passes_call (takes_of rfl rfl rfl rfl) fun _ _ _ _ h => h) (pv 1) (pa_cons (pv 3) (pa_nil))))
      (pss_cons (ps_if (PW.pt (pw_or (pt_not (pt_cmpR (cmp_le D_le T.cle (rm hr) (passes_call (takes_of rfl rfl rfl rfl) fun _ _ _ _ h => h)) (pv 4) (pv 1) (nomark _))) (pw_or (pt_cmpR op_ge (pe_op (op_own D_sub T.bs (rm hr) (passes_call (takes_of rfl rfl rfl rfl) fun _ _ _ _ h => h)) (pv 1) (pv 4)) (pv 3) (nomark _)) (pw_or1 (pt_cmpR op_ne (pe_op op_mod (pe_callTy cl_int (by rfl) T.z_int (by decide +kernel) (pa_cons (pe_pr R_seconds (rm hr) (pv 4)) (pa_nil))) (pv 3)) (pe_int) (nomark _))))))
      (pss_one (ps_ret (pe_bl)))
      (pss_nil))
      (pss_cons (ps_if (pt_cmpR (cmp_neq D_eq T.cne (rm hr) (passes_call (takes_of rfl rfl rfl rfl) fun _ _ _ _ h => h)) (pe_dm H_seen (rm hr) (passes_call (takes_of rfl rfl rfl rfl) fun _ _ _ _ h => h) (pv 4) (pa_cons (pv 3) (pa_nil))) (pv 4) (nomark _))
      (pss_one (ps_ret (pe_bl)))
      (pss_nil))
      (pss_cons (ps_set (i := 5) c_law_rounds.nd rfl (Or.inl rfl) (pe_op op_mul (pe_op op_sub (pe_dn D_law_draw (rm hr) rfl T.g_law_draw (passes_call (takes_of rfl rfl rfl rfl) fun _ _ _ _ h => h) (pa_cons (pv 0) (pa_cons (pe_int) (pa_nil)))) (pe_int)) (pv 3)))
      (pss_cons (ps_if (pt_cmpR (cmp_neq D_eq T.cne (rm hr) (passes_call (takes_of rfl rfl rfl rfl) fun _ _ _ _ h => h)) (pe_dm H_seen (rm hr) (passes_call (takes_of rfl rfl rfl rfl) fun _ _ _ _ h => h) (pe_op (op_own D_add T.ba (rm hr) (passes_call (takes_of rfl rfl rfl rfl) fun _ _ _ _ h => h)) (pv 1) (pv 5)) (pa_cons (pv 3) (pa_nil))) (pe_op (op_own D_add T.ba (rm hr) (passes_call (takes_of rfl rfl rfl rfl) fun _ _ _ _ h => h)) (pv 4) (pv 5)) (nomark _))
      (pss_one (ps_ret (pe_bl)))
      (pss_nil))
      (pss_one (ps_ret (pe_or (pe_not (pe_cmpR (cmp_le D_le T.cle (rm hr) (passes_call (takes_of rfl rfl rfl rfl) fun _ _ _ _ h => h)) (pv 1) (pv 2) (nomark _))) (pe_one (pe_cmpR (cmp_le D_le T.cle (rm hr) (passes_call (takes_of rfl rfl rfl rfl) fun _ _ _ _ h => h)) (pv 4) (pe_dm H_seen (rm hr) (passes_call (takes_of rfl rfl rfl rfl) fun _ _ _ _ h => h) (pv 2) (pa_cons (pv 3) (pa_nil))) (nomark _))))))))))), ?_⟩)
  · obtain ⟨a, p, dp, q, dq, n, s, x, y, rfl, _⟩ := h
    rfl
  · obtain ⟨a, p, dp, q, dq, n, s, x, y, rfl, ha, hp, hq, hs, hx, hy, k⟩ := h
    have npa : p ≠ a := ne_of hp ha (by intro z; cases z)
    have nqa : q ≠ a := ne_of hq ha (by intro z; cases z)
    have S0 : Sh H (fun b => b = a) H [(a, .lst [.int n, .int s], true)] := Sh.start.take ha rfl (fun _ h => nomatch h)
    have S1 := S0.know hp (fun e h _ => by simp at h; rw [h]; exact npa)
    have S := S1.know hq (fun e h m => by
      simp at h
      rcases h with h | h
      · rw [h] at m; cases m
      · rw [h]; exact nqa)
    clear S0 S1
    have t1 := T.cl
    have t2 := T.nN
    have t3 := T.bi
    have t4 := T.bsi
    have t5 := T.nfi
    have t6 := T.nfm
    have t7 : Beside K .Sub (ga K "Moment") (.ref (ga K "Moment")) := .inl rfl
    have tm := T.toTM
    obtain ⟨hx1, hx2⟩ := hx
    obtain ⟨hy1, hy2⟩ := hy
    (purse 7018 => fail)
    (purse 7012 => fail)
    refine g_ixI 9 1000000 (by (purse 7003 => fail)) (by omega) (by (purse 7020 => fail)) (by (purse 7019 => fail)) ?_
    intro z _ _
    (purse 7018 => fail)
    (purse 7012 => fail)
    refine g_two (fun c => ?_) (fun c => ?_)
    · exact k _ _ _ (by (purse 7006 => fail)) (by (purse 7003 => fail)) (by assumption)
    · have c : x ≤ y := by simpa using c
      (purse 7012 => fail)
      rw [decide_eq_true (down_mono _ _ _ (by omega) (by omega))]
      exact k _ _ _ (by (purse 7006 => fail)) (by (purse 7003 => fail)) (by assumption)
theorem use_rounds {H0 : Hp} {M : Addr → Prop} {H : Hp} {l : List Ent} {l' : Int → Int → List Ent} {C a p dp q dq : Addr} {E : XK} {Q : VK} {n s x y : Int} (S : Sh H0 M H l) (r : ∀ n' s', Rep l a (.lst [.int n, .int s]) (.lst [.int n', .int s']) (l' n' s')) (o : On l p (.ins C dp (mo x))) (o2 : On l q (.ins C dq (mo y))) (hs : Sd n s)
    (h1 : -100000000000000000000000000000 ≤ x) (h2 : x ≤ 100000000000000000000000000000) (h3 : -100000000000000000000000000000 ≤ y) (h4 : y ≤ 100000000000000000000000000000) (k : ∀ n' s' H', Sd n' s' → Sh H0 M H' (l' n' s') → Q (.bl true) H') : spRounds C [.ref a, .ref p, .ref q] H Q E :=
  ⟨a, p, dp, q, dq, n, s, x, y, rfl, S.has _ (r n s).mem, S.has_ o, S.has_ o2, hs, ⟨h1, h2⟩, ⟨h3, h4⟩, fun n' s' H' c h sd => k n' s' H' sd (S.ch1 (r n' s') c h)⟩
local macro_rules | `(tactic| purse 7001 => fail) => `(tactic| first
  | ((with_reducible refine' use_rounds ?a0 ?a1 ?a2 ?a3 ?a4 ?a5 ?a6 ?a7 ?a8 ?_); (case a0 => assumption); (case a1 => intro _ _; (purse 7005 => fail)); (case a2 => (purse 7004 => fail)); (case a3 => (purse 7004 => fail)); (case a4 => assumption); (case a5 => omega); (case a6 => omega); (case a7 => omega); (case a8 => omega); intro _ _ _ _ _))
theorem Sh.tail {H0 : Hp} {M : Addr → Prop} {H : Hp} {e : Ent} {l : List Ent} (S : Sh H0 M H (e :: l)) : Sh H0 M H l :=
  ⟨S.fr, fun x hx => S.has x (List.mem_cons_of_mem _ hx), (List.pairwise_cons.mp (by rw [← List.map_cons]; exact S.ap)).2, fun x hx => S.mu x (List.mem_cons_of_mem _ hx)⟩
abbrev M3 := Addr × Addr × Int
def ent (C : Addr) (e : M3) : Ent := (e.1, .ins C e.2.1 (mo e.2.2), true)
def near (z : Int) : Prop := -100000000000000000000000000000 ≤ z ∧ z ≤ 100000000000000000000000000000
theorem lc_moments {H0 : Hp} {M : Addr → Prop} {H : Hp} {e0 : Ent} {src C : Addr} {n s : Int} {te : TE} {σ : L2.St} {Q : VK} {k : Nat} (hk : ∀ x : V, wipe ((wipe σ [k]).set k (some x)) [k] = wipe σ [k]) (S : Sh H0 M H [e0, (src, .lst [.int n, .int s], true)]) (hs : Sd n s)
    (hte : ∀ (i : Nat) (D : Addr) (H1 : Hp) (ms : List M3) (n s : Int) (P : Hp → Prop), Sd n s → ms.length ≤ 3 → Sh H0 M H1 ((D, .lst (ms.reverse.map fun e => V.ref e.1), true) :: (src, .lst [.int n, .int s], true) :: ms.map (ent C)) →
      (∀ x dx z n' s' H2, near z → Sd n' s' → Sh H0 M H2 ((D, .lst ((ms.reverse.map fun e => V.ref e.1) ++ [.ref x]), true) :: (src, .lst [.int n', .int s'], true) :: (x, .ins C dx (mo z), true) :: ms.map (ent C)) → P H2) → te ((wipe σ [k]).set k (some (.int (i : Int)))) H1 (kEl D P))
    (q : ∀ D x1 d1 z1 x2 d2 z2 x3 d3 z3 n' s' H', near z1 → near z2 → near z3 → Sd n' s' → Sh H0 M H' [(D, .lst [.ref x1, .ref x2, .ref x3], true), (src, .lst [.int n', .int s'], true), (x3, .ins C d3 (mo z3), true), (x2, .ins C d2 (mo z2), true), (x1, .ins C d1 (mo z1), true)] → Q (.ref D) H') : LcR (Int.toNat 3) k te σ Q H := by
  refine g_lcloop hk (fun D i H' => ∃ (ms : List M3) (n s : Int), ms.length = i ∧ (∀ e, e ∈ ms → near e.2.2) ∧ Sd n s ∧ Sh H0 M H' ((D, .lst (ms.reverse.map fun e => V.ref e.1), true) :: (src, .lst [.int n, .int s], true) :: ms.map (ent C))) ?_ ?_ ?_
  · intro D hD
    exact ⟨[], n, s, rfl, (fun _ h => nomatch h), hs, (Sh.tail S).new hD⟩
  · rintro D i H' hi ⟨ms, n, s, hl, hb, hsd, S'⟩
    have hi3 : i < 3 := hi
    refine hte i D H' ms n s _ hsd (by omega) S' fun x dx z n' s' H2 hz sd S2 => ⟨(x, dx, z) :: ms, n', s', by rw [List.length_cons, hl], ?_, sd, ?_⟩
    · intro e he
      rcases List.mem_cons.mp he with h | h
      · rw [h]; exact hz
      · exact hb e h
    · rw [List.reverse_cons, List.map_append]
      exact S2
  · rintro D H' ⟨ms, n, s, hl, hb, sd, S'⟩
    match ms, hl with
    | [e3, e2, e1], _ => exact q D e1.1 e1.2.1 e1.2.2 e2.1 e2.2.1 e2.2.2 e3.1 e3.2.1 e3.2.2 n s H' (hb e1 (by simp)) (hb e2 (by simp)) (hb e3 (by simp)) sd S'
theorem ok_law (F : FnP K "law" "law" s_law f fd) (T : TW K mg) (D_law_draw : Dn P w K mg base 2 (ga K "_law_draw") ["source", "amount"] spDraw) (D_law_source : Dn P w K mg base 2 (ga K "_law_source") ["script", "turn"] (spSource K))
    (D_law_rounds : Dn P w K mg base 12 (ga K "_law_rounds") ["source", "a", "b"] (spRounds (ga K "Moment")))
    (M_Moment : Mn P w K mg base 6 (ga K "Moment") ["self", "seconds"] (spInit (ga K "Moment")))
    (D_add : Dn P w K mg base 9 (ma K (ga K "Moment") "__add__") ["self", "other"] (spPlus (ga K "Moment") fun n k => n + k)) (D_radd : Dn P w K mg base 11 (ma K (ga K "Moment") "__radd__") ["self", "other"] (spPlus (ga K "Moment") fun n k => n + k))
    (D_sub : Dn P w K mg base 9 (ma K (ga K "Moment") "__sub__") ["self", "other"] (spSub (ga K "Moment")))
    (D_lt : Dn P w K mg base 4 (ma K (ga K "Moment") "__lt__") ["self", "other"] (spCmp (ga K "Moment") fun n m => decide (n < m))) (D_le : Dn P w K mg base 4 (ma K (ga K "Moment") "__le__") ["self", "other"] (spCmp (ga K "Moment") fun n m => decide (n ≤ m)))
    (D_gt : Dn P w K mg base 4 (ma K (ga K "Moment") "__gt__") ["self", "other"] (spCmp (ga K "Moment") fun n m => decide (m < n))) (D_ge : Dn P w K mg base 4 (ma K (ga K "Moment") "__ge__") ["self", "other"] (spCmp (ga K "Moment") fun n m => decide (m ≤ n)))
    (D_eq : Dn P w K mg base 4 (ma K (ga K "Moment") "__eq__") ["self", "other"] (spEqM (ga K "Moment"))) :
    FnOk P w K mg base (L2.CX P w) 14 f fd ["script"] (spLaw K) := by
  refine F.ok c_law (fun vs H Q E h => ?_) (fun cdv A outer s H vs Q E hr h => ⟨_, pss_cons (ps_for (passes_of rfl) rfl (pi_range1 rfl T.z_range (pa_cons (pe_callB (cl_max rfl) (by rfl) T.z_max (by decide +kernel) (pa_cons (pe_int) (pa_cons (pe_callB (cl_min rfl) (by rfl) T.z_min (by decide +kernel) (pa_cons (pe_callB cl_len (by rfl) T.z_len (by decide +kernel) (pa_cons (pv 0) (pa_nil))) (pa_cons (pe_int) (pa_nil)))) (pa_nil)))) (pa_nil))) (pg_name (i := 1) c_law.nd rfl (Or.inl rfl))
      (pss_cons (ps_set (i := 2) c_law.nd rfl (Or.inr rfl) (pe_dn D_law_source (rm hr) rfl T.g_law_source (passes_call (takes_of rfl rfl rfl rfl) fun _ _ _ _ h => h) (pa_cons (pv 0) (pa_cons (pv 1) (pa_nil)))))
      (pss_cons (ps_set (i := 3) c_law.nd rfl (Or.inr rfl) (pe_ix ix_list (pe_lst (pa_cons (pe_int) (pa_cons (pe_op op_pow (pe_int) (pe_int)) (pa_nil)))) (pe_dn D_law_draw (rm hr) rfl T.g_law_draw (passes_call (takes_of rfl rfl rfl rfl) fun _ _ _ _ h => h) (pa_cons (pv 2) (pa_cons (pe_int) (pa_nil)))) (fun _ _ => rfl)))
      (pss_cons (ps_asg (pe_lc (own := [("k", 9)]) (g := gName 9) (tt := tYes) rfl c_law.nd (pi_range1 rfl T.z_range (pa_cons (pe_int) (pa_nil))) (blkOk_by (own := [("k", 9)]) (N := ["script", "turn", "source", "far", "a", "b", "c", "step", "more", "k"]) (sc := defScope s_law) (by decide +kernel)) (fun _ _ _ _ _ => pg_name (i := 9) c_law.nd rfl (Or.inl rfl)) (fun _ _ _ _ _ => pts_nil) (fun _ _ _ _ _ => pe_mn M_Moment (rm hr) rfl T.g_Moment passL (pa_cons (pe_op op_sub (pe_dn D_law_draw (rm hr) rfl T.g_law_draw passL (pa_cons (pv 2) (pa_cons (pv 3) (pa_nil)))) (pe_op op_fdiv (pv 3) (pe_int))) (pa_nil)))) (pg_unl (n := 3) rfl (pgs_cons (pg_name (i := 4) c_law.nd rfl (Or.inl rfl)) (pgs_cons (pg_name (i := 5) c_law.nd rfl (Or.inl rfl)) (pgs_cons (pg_name (i := 6) c_law.nd rfl (Or.inl rfl)) (pgs_nil))))))
      (pss_cons (ps_par (i := 7) (j := 8) rfl c_law.nd rfl rfl (by decide) rfl rfl (pa_cons (pe_op op_sub (pe_dn D_law_draw (rm hr) rfl T.g_law_draw (passes_call (takes_of rfl rfl rfl rfl) fun _ _ _ _ h => h) (pa_cons (pv 2) (pa_cons (pv 3) (pa_nil)))) (pe_op op_fdiv (pv 3) (pe_int))) (pa_cons (pe_op op_sub (pe_dn D_law_draw (rm hr) rfl T.g_law_draw (passes_call (takes_of rfl rfl rfl rfl) fun _ _ _ _ h => h) (pa_cons (pv 2) (pa_cons (pv 3) (pa_nil)))) (pe_op op_fdiv (pv 3) (pe_int))) (pa_nil))) (by rfl))
      (pss_cons (ps_if (pt_cmpR (cmp_neq D_eq T.cne (rm hr) (passes_call (takes_of rfl rfl rfl rfl) fun _ _ _ _ h => h)) (pe_op (op_own D_add T.ba (rm hr) (passes_call (takes_of rfl rfl rfl rfl) fun _ _ _ _ h => h)) (pe_op (op_own D_add T.ba (rm hr) (passes_call (takes_of rfl rfl rfl rfl) fun _ _ _ _ h => h)) (pv 4) (pv 7)) (pv 8)) (pe_op (op_own D_add T.ba (rm hr) (passes_call (takes_of rfl rfl rfl rfl) fun _ _ _ _ h => h)) (pv 4) (pe_op op_add (pv 7) (pv 8))) (nomark _))
      (pss_one (ps_ret (pe_bl)))
      (pss_nil))
      (pss_cons (ps_if (PW.pt (pw_or (pt_cmpR (cmp_neq D_eq T.cne (rm hr) (passes_call (takes_of rfl rfl rfl rfl) fun _ _ _ _ h => h)) (pe_op (op_own D_sub T.bs (rm hr) (passes_call (takes_of rfl rfl rfl rfl) fun _ _ _ _ h => h)) (pe_op (op_own D_add T.ba (rm hr) (passes_call (takes_of rfl rfl rfl rfl) fun _ _ _ _ h => h)) (pv 4) (pv 7)) (pv 7)) (pv 4) (nomark _)) (pw_or1 (pt_cmpR (cmp_neq D_eq T.cne (rm hr) (passes_call (takes_of rfl rfl rfl rfl) fun _ _ _ _ h => h)) (pe_op (op_right_add D_radd T.br (rm hr) (passes_call (takes_of rfl rfl rfl rfl) fun _ _ _ _ h => h)) (pv 7) (pv 4)) (pe_op (op_own D_add T.ba (rm hr) (passes_call (takes_of rfl rfl rfl rfl) fun _ _ _ _ h => h)) (pv 4) (pv 7)) (nomark _)))))
      (pss_one (ps_ret (pe_bl)))
      (pss_nil))
      (pss_cons (ps_if (pt_cmpR (cmp_neq D_eq T.cne (rm hr) (passes_call (takes_of rfl rfl rfl rfl) fun _ _ _ _ h => h)) (pe_op (op_own D_sub T.bs (rm hr) (passes_call (takes_of rfl rfl rfl rfl) fun _ _ _ _ h => h)) (pv 4) (pv 7)) (pe_op (op_own D_add T.ba (rm hr) (passes_call (takes_of rfl rfl rfl rfl) fun _ _ _ _ h => h)) (pv 4) (pe_un un_neg (pv 7))) (nomark _))
      (pss_one (ps_ret (pe_bl)))
      (pss_nil))
      (pss_cons (ps_if (pt_cmpR op_ne (pe_op op_add (pe_op (op_own D_sub T.bs (rm hr) (passes_call (takes_of rfl rfl rfl rfl) fun _ _ _ _ h => h)) (pv 4) (pv 5)) (pe_op (op_own D_sub T.bs (rm hr) (passes_call (takes_of rfl rfl rfl rfl) fun _ _ _ _ h => h)) (pv 5) (pv 6))) (pe_op (op_own D_sub T.bs (rm hr) (passes_call (takes_of rfl rfl rfl rfl) fun _ _ _ _ h => h)) (pv 4) (pv 6)) (nomark _))
      (pss_one (ps_ret (pe_bl)))
      (pss_nil))
      (pss_cons (ps_if (pt_cmpR op_ne (pe_op op_add (pe_callTy cl_int (by rfl) T.z_int (by decide +kernel) (pa_cons (pe_op (op_own D_sub T.bs (rm hr) (passes_call (takes_of rfl rfl rfl rfl) fun _ _ _ _ h => h)) (pv 4) (pv 5)) (pa_nil))) (pe_callTy cl_int (by rfl) T.z_int (by decide +kernel) (pa_cons (pe_op (op_own D_sub T.bs (rm hr) (passes_call (takes_of rfl rfl rfl rfl) fun _ _ _ _ h => h)) (pv 5) (pv 4)) (pa_nil)))) (pe_int) (nomark _))
      (pss_one (ps_ret (pe_bl)))
      (pss_nil))
      (pss_cons (ps_if (PW.pt (pw_or (pt_cmpR (cmp_neq D_eq T.cne (rm hr) (passes_call (takes_of rfl rfl rfl rfl) fun _ _ _ _ h => h)) (pe_op (op_own D_add T.ba (rm hr) (passes_call (takes_of rfl rfl rfl rfl) fun _ _ _ _ h => h)) (pv 5) (pe_op (op_own D_sub T.bs (rm hr) (passes_call (takes_of rfl rfl rfl rfl) fun _ _ _ _ h => h)) (pv 4) (pv 5))) (pv 4) (nomark _)) (pw_or1 (pt_cmpR op_ne (pe_op (op_own D_sub T.bs (rm hr) (passes_call (takes_of rfl rfl rfl rfl) fun _ _ _ _ h => h)) (pv 4) (pv 4)) (pe_int) (nomark _)))))
      (pss_one (ps_ret (pe_bl)))
      (pss_nil))
      (pss_cons (ps_if (pt_cmpR op_ne (pe_bm PySem.F.plainAttrs_list PySem.F.slot_list_count PySem.F.type_list_count mt_bcount (pe_lst (pa_cons (pe_cmpR (cmp_lt D_lt T.clt (rm hr) (passes_call (takes_of rfl rfl rfl rfl) fun _ _ _ _ h => h)) (pv 4) (pv 5) (nomark _)) (pa_cons (pe_cmpR (cmp_eq D_eq T.ceq (rm hr) (passes_call (takes_of rfl rfl rfl rfl) fun _ _ _ _ h => h)) (pv 4) (pv 5) (nomark _)) (pa_cons (pe_cmpR (cmp_gt D_gt T.cgt (rm hr) (passes_call (takes_of rfl rfl rfl rfl) fun _ _ _ _ h => h)) (pv 4) (pv 5) (nomark _)) (pa_nil))))) (pa_cons (pe_bl) (pa_nil))) (pe_int) (nomark _))
      (pss_one (ps_ret (pe_bl)))
      (pss_nil))
      (pss_cons (ps_if (pt_cmpR op_ne (pe_cmpR (cmp_le D_le T.cle (rm hr) (passes_call (takes_of rfl rfl rfl rfl) fun _ _ _ _ h => h)) (pv 4) (pv 5) (nomark _)) (pe_or (pe_cmpR (cmp_lt D_lt T.clt (rm hr) (passes_call (takes_of rfl rfl rfl rfl) fun _ _ _ _ h => h)) (pv 4) (pv 5) (nomark _)) (pe_one (pe_cmpR (cmp_eq D_eq T.ceq (rm hr) (passes_call (takes_of rfl rfl rfl rfl) fun _ _ _ _ h => h)) (pv 4) (pv 5) (nomark _)))) (nomark _))
      (pss_one (ps_ret (pe_bl)))
      (pss_nil))
      (pss_cons (ps_if (pt_cmpR op_ne (pe_cmpR (cmp_ge D_ge T.cge (rm hr) (passes_call (takes_of rfl rfl rfl rfl) fun _ _ _ _ h => h)) (pv 4) (pv 5) (nomark _)) (pe_cmpR (cmp_le D_le T.cle (rm hr) (passes_call (takes_of rfl rfl rfl rfl) fun _ _ _ _ h => h)) (pv 5) (pv 4) (nomark _)) (nomark _))
      (pss_one (ps_ret (pe_bl)))
      (pss_nil))
      (pss_cons (ps_if (pt_cmpR op_ne (pe_cmpR (cmp_lt D_lt T.clt (rm hr) (passes_call (takes_of rfl rfl rfl rfl) fun _ _ _ _ h => h)) (pv 4) (pv 5) (nomark _)) (pe_cmpR op_lt (pe_op (op_own D_sub T.bs (rm hr) (passes_call (takes_of rfl rfl rfl rfl) fun _ _ _ _ h => h)) (pv 4) (pv 5)) (pe_int) (nomark _)) (nomark _))
      (pss_one (ps_ret (pe_bl)))
      (pss_nil))
      (pss_cons (ps_if (pt_cmpR op_ne (pe_cmpR (cmp_lt D_lt T.clt (rm hr) (passes_call (takes_of rfl rfl rfl rfl) fun _ _ _ _ h => h)) (pe_op (op_own D_add T.ba (rm hr) (passes_call (takes_of rfl rfl rfl rfl) fun _ _ _ _ h => h)) (pv 4) (pv 7)) (pe_op (op_own D_add T.ba (rm hr) (passes_call (takes_of rfl rfl rfl rfl) fun _ _ _ _ h => h)) (pv 5) (pv 7)) (nomark _)) (pe_cmpR (cmp_lt D_lt T.clt (rm hr) (passes_call (takes_of rfl rfl rfl rfl) fun _ _ _ _ h => h)) (pv 4) (pv 5) (nomark _)) (nomark _))
      (pss_one (ps_ret (pe_bl)))
      (pss_nil))
      (pss_cons (ps_if (PW.pt (pw_and (pt_cmpR (cmp_le D_le T.cle (rm hr) (passes_call (takes_of rfl rfl rfl rfl) fun _ _ _ _ h => h)) (pv 4) (pv 5) (nomark _)) (pw_and (pt_cmpR (cmp_le D_le T.cle (rm hr) (passes_call (takes_of rfl rfl rfl rfl) fun _ _ _ _ h => h)) (pv 5) (pv 6) (nomark _)) (pw_and1 (pt_not (pt_cmpR (cmp_le D_le T.cle (rm hr) (passes_call (takes_of rfl rfl rfl rfl) fun _ _ _ _ h => h)) (pv 4) (pv 6) (nomark _)))))))
      (pss_one (ps_ret (pe_bl)))
      (pss_nil))
      (pss_one (ps_if (pt_not (pt_val (pe_dn D_law_rounds (rm hr) rfl T.g_law_rounds (passes_call (takes_of rfl rfl rfl rfl) fun _ _ _ _ h => h) (pa_cons (pv 2) (pa_cons (pv 4) (pa_cons (pv 5) (pa_nil)))))))
      (pss_one (ps_ret (pe_bl)))
      (pss_nil))))))))))))))))))))
      (pss_one (ps_ret (pe_bl))), ?_⟩)
  · obtain ⟨a, ns, rfl, _⟩ := h
    rfl
  · obtain ⟨a, ns, rfl, hS, hl, k⟩ := h
    have t1 := T.cl
    have t2 := T.nN
    have t3 := T.bi
    have t4 := T.bsi
    have t5 := T.nfi
    have t6 := T.nfm
    have t7 : Beside K .Sub (ga K "Moment") (.ref (ga K "Moment")) := .inl rfl
    have tm := T.toTM
    (purse 7012 => fail)
    refine g_lenL hS ?_
    have hlen : (ns.map V.int).length ≤ 63 := by rw [List.length_map]; exact hl
    (purse 7012 => fail)
    refine g_loop (fun i σ H' => ∃ o1 o2 o3 o4 o5 o6 o7 o8 o9, σ = [some (.ref a), o1, o2, o3, o4, o5, o6, o7, o8, o9] ∧ SqL K H' a (ns.map V.int)) ⟨_, _, _, _, _, _, _, _, _, rfl, hS⟩ ?_ ?_
    · rintro i σ H' hi ⟨o1, o2, o3, o4, o5, o6, o7, o8, o9, rfl, hS'⟩
      have S : Sh H' (fun _ => False) H' [] := Sh.start
      (purse 7012 => fail)
      refine g_ixI 12 100000000000000000000000000000 (by (purse 7003 => fail)) (by omega) (by (purse 7020 => fail)) (by (purse 7019 => fail)) ?_
      intro z _ _
      (purse 7012 => fail)
      refine lc_moments (C := ga K "Moment") (fun _ => rfl) (by assumption) (by assumption) ?_ ?_
      · intro i D H1 ms n s P hsd hl3 S1 kp
        simp only [wipe, List.set_cons_zero, List.set_cons_succ]
        (purse 7012 => fail)
        refine g_kel (by assumption) (by (purse 7005 => fail)) (by simp only [List.length_map, List.length_reverse]; omega) ?_
        intro H2 S2
        exact kp _ _ _ _ _ H2 ⟨by omega, by omega⟩ (by assumption) (S2.perm ((List.Perm.swap _ _ _).trans ((List.Perm.swap _ _ _).cons _)))
      · intro D x1 d1 z1 x2 d2 z2 x3 d3 z3 n' s' H9 hz1 hz2 hz3 sd S9
        obtain ⟨hz1, hw1⟩ := hz1
        obtain ⟨hz2, hw2⟩ := hz2
        obtain ⟨hz3, hw3⟩ := hz3
        (purse 7022 => fail)
        all_goals exact ⟨_, _, _, _, _, _, _, _, _, rfl, Sh.seq (by assumption) (fun h => h) hS'⟩
    · rintro σ H' ⟨o1, o2, o3, o4, o5, o6, o7, o8, o9, rfl, hS'⟩
      (purse 7012 => fail)
      exact k _
end

end K59
namespace K59
open PySem PySem.Spec PyProof.Rows L2 AF
set_option maxHeartbeats 0
/-! the end -/
section
open He
def hdefs : List DA := [⟨fun K => ga K "law", "law", "law", s_law, [], []⟩, ⟨fun K => ga K "_law_source", "_law_source", "_law_source", s_law_source, [], []⟩, ⟨fun K => ga K "_law_draw", "_law_draw", "_law_draw", s_law_draw, [], []⟩, ⟨fun K => ga K "_law_rounds", "_law_rounds", "_law_rounds", s_law_rounds, [], []⟩,
  ⟨fun K => ga K "is_whole", "is_whole", "is_whole", s_is_whole, [], []⟩, ⟨fun K => ga K "is_moment", "is_moment", "is_moment", s_is_moment, [], []⟩, ⟨fun K => ga K "number_of", "number_of", "number_of", s_number_of, [], []⟩,
  ⟨fun K => ma K (ga K "Moment") "__init__", "__init__", "Moment.__init__", s_Moment___init__, [], []⟩, ⟨getA "Moment" "seconds", "seconds", "Moment.seconds", s_Moment_seconds, [], []⟩, ⟨fun K => ma K (ga K "Moment") "seen", "seen", "Moment.seen", s_Moment_seen, [], []⟩,
  ⟨fun K => ma K (ga K "Moment") "__add__", "__add__", "Moment.__add__", s_Moment___add__, [], []⟩, ⟨fun K => ma K (ga K "Moment") "__radd__", "__radd__", "Moment.__radd__", s_Moment___radd__, [], []⟩, ⟨fun K => ma K (ga K "Moment") "__sub__", "__sub__", "Moment.__sub__", s_Moment___sub__, [], []⟩,
  ⟨fun K => ma K (ga K "Moment") "__lt__", "__lt__", "Moment.__lt__", s_Moment___lt__, [], []⟩, ⟨fun K => ma K (ga K "Moment") "__le__", "__le__", "Moment.__le__", s_Moment___le__, [], []⟩, ⟨fun K => ma K (ga K "Moment") "__gt__", "__gt__", "Moment.__gt__", s_Moment___gt__, [], []⟩,
  ⟨fun K => ma K (ga K "Moment") "__ge__", "__ge__", "Moment.__ge__", s_Moment___ge__, [], []⟩, ⟨fun K => ma K (ga K "Moment") "__eq__", "__eq__", "Moment.__eq__", s_Moment___eq__, [], []⟩]
def hfacts (K : PySem.W.Frag) : List Bool := [(Fa.glo "law").ok K, (Fa.glo "Moment").ok K, (Fa.glo "is_whole").ok K, (Fa.glo "is_moment").ok K, (Fa.glo "number_of").ok K, (Fa.glo "_law_source").ok K, (Fa.glo "_law_draw").ok K, (Fa.glo "_law_rounds").ok K,
  (Fa.free "isinstance").ok K, (Fa.free "int").ok K, (Fa.free "bool").ok K, (Fa.free "abs").ok K, (Fa.free "len").ok K, (Fa.free "range").ok K, (Fa.free "max").ok K, (Fa.free "min").ok K,
  (Fa.cls "Moment").ok K, (Fa.noat "Moment" "number").ok K, insB K (ga K "Moment"), decide (PySem.W.kitOne K (.type "int") (.ref (ga K "Moment")) = some false), binB K .Add (ga K "Moment") (ma K (ga K "Moment") "__add__"), binTB K .Add (ga K "Moment") "int",
  binRB K .Add (ga K "Moment") (ma K (ga K "Moment") "__radd__"), binB K .Sub (ga K "Moment") (ma K (ga K "Moment") "__sub__"), binTB K .Sub (ga K "Moment") "int", cmpB K .Lt (ga K "Moment") (ma K (ga K "Moment") "__lt__"), cmpB K .LtE (ga K "Moment") (ma K (ga K "Moment") "__le__"),
  cmpB K .Gt (ga K "Moment") (ma K (ga K "Moment") "__gt__"), cmpB K .GtE (ga K "Moment") (ma K (ga K "Moment") "__ge__"), cmpB K .Eq (ga K "Moment") (ma K (ga K "Moment") "__eq__"), neB K (ga K "Moment") (ma K (ga K "Moment") "__eq__"),
  PySem.W.notFirst K (ga K "Moment") (.type "int"), PySem.W.notFirst K (ga K "Moment") (.ref (ga K "Moment")), (Fa.mkr "Moment").ok K, (Fa.meth "Moment" "seen").ok K, propB K (ga K "Moment") "seconds" (getA "Moment" "seconds" K)]
abbrev R : PySem.W.OpenRow := PySem.W.OpenLaw.row PySem.Challenge.rw_agedfiles_k59_whole_moments_as_numbers
abbrev hk : PySem.W.Hook := hook 6 hfacts hdefs
def ob (s : PySem.W.SharedT) : AF.Seen := lookG 6 hfacts hdefs (HandSHeadRun.getT s)
theorem ob_eq (s : PySem.W.SharedT) : ob s = hk.obs s.abs := lookG_eq (HandSHeadRun.getT_eq s)
abbrev names : List PySem.Str := ["__name__", "AgeError", "NoMoment", "NoGrain", "is_whole", "is_moment", "Moment", "number_of", "_law_source", "_law_draw", "_law_pick", "_law_rounds"]
theorem run (w : World) : HandSHeadRun.RunEq R (PySem.W.view R.prog [15]) hk ob 3000 names w := by
  intro os
  kernel_rfl
end

end K59
namespace K59
open PySem PySem.Spec PyProof.Rows L2 AF
section
open He
theorem all_ok {P : Program} {w : World} {K : PySem.W.Frag} {h : Heap} {mg : Str → Option Value} {f : Addr} (X : K.In h) (G : h.Ns mainGlobals mg) (hfa : mg ("law" : Str) = some (.ref f)) (c : Tells hfacts hdefs K) :
    ∃ fd : FuncData, (∀ (s : Shared) (v : Value), BindsTo s fd ⟨[v], []⟩ [("script", v)]) ∧ ∀ base : Heap, K.In base → base.Ns mainGlobals mg → FnOk P w K mg base (L2.CX P w) 14 f fd ["script"] (spLaw K) := by
  have cl : Cls K (ga K "Moment") := cls_ok (c.fact 16 (b := (Fa.cls "Moment").ok K) rfl)
  have T : TW K mg := {
    g_Moment := glo_ok X G (c.fact 1 (b := (Fa.glo "Moment").ok K) rfl),
    g_is_whole := glo_ok X G (c.fact 2 (b := (Fa.glo "is_whole").ok K) rfl),
    g_is_moment := glo_ok X G (c.fact 3 (b := (Fa.glo "is_moment").ok K) rfl),
    g_number_of := glo_ok X G (c.fact 4 (b := (Fa.glo "number_of").ok K) rfl),
    g_law_source := glo_ok X G (c.fact 5 (b := (Fa.glo "_law_source").ok K) rfl),
    g_law_draw := glo_ok X G (c.fact 6 (b := (Fa.glo "_law_draw").ok K) rfl),
    g_law_rounds := glo_ok X G (c.fact 7 (b := (Fa.glo "_law_rounds").ok K) rfl),
    z_isinstance := free_ok X G (c.fact 8 (b := (Fa.free "isinstance").ok K) rfl),
    z_int := free_ok X G (c.fact 9 (b := (Fa.free "int").ok K) rfl),
    z_bool := free_ok X G (c.fact 10 (b := (Fa.free "bool").ok K) rfl),
    z_abs := free_ok X G (c.fact 11 (b := (Fa.free "abs").ok K) rfl),
    z_len := free_ok X G (c.fact 12 (b := (Fa.free "len").ok K) rfl),
    z_range := free_ok X G (c.fact 13 (b := (Fa.free "range").ok K) rfl),
    z_max := free_ok X G (c.fact 14 (b := (Fa.free "max").ok K) rfl),
    z_min := free_ok X G (c.fact 15 (b := (Fa.free "min").ok K) rfl),
    cl := cl,
    nN := noat_ok (c.fact 17 (b := (Fa.noat "Moment" "number").ok K) rfl),
    ic := insB_ok cl (c.fact 18 (b := insB K (ga K "Moment")) rfl),
    ki := of_decide_eq_true (c.fact 19 (b := decide (PySem.W.kitOne K (.type "int") (.ref (ga K "Moment")) = some false)) rfl),
    ba := binB_ok (c.fact 20 (b := binB K .Add (ga K "Moment") (ma K (ga K "Moment") "__add__")) rfl),
    bi := binTB_ok (c.fact 21 (b := binTB K .Add (ga K "Moment") "int") rfl),
    br := binRB_ok (c.fact 22 (b := binRB K .Add (ga K "Moment") (ma K (ga K "Moment") "__radd__")) rfl),
    bs := binB_ok (c.fact 23 (b := binB K .Sub (ga K "Moment") (ma K (ga K "Moment") "__sub__")) rfl),
    bsi := binTB_ok (c.fact 24 (b := binTB K .Sub (ga K "Moment") "int") rfl),
    clt := cmpB_ok (c.fact 25 (b := cmpB K .Lt (ga K "Moment") (ma K (ga K "Moment") "__lt__")) rfl),
    cle := cmpB_ok (c.fact 26 (b := cmpB K .LtE (ga K "Moment") (ma K (ga K "Moment") "__le__")) rfl),
    cgt := cmpB_ok (c.fact 27 (b := cmpB K .Gt (ga K "Moment") (ma K (ga K "Moment") "__gt__")) rfl),
    cge := cmpB_ok (c.fact 28 (b := cmpB K .GtE (ga K "Moment") (ma K (ga K "Moment") "__ge__")) rfl),
    ceq := cmpB_ok (c.fact 29 (b := cmpB K .Eq (ga K "Moment") (ma K (ga K "Moment") "__eq__")) rfl),
    cne := neB_ok (c.fact 30 (b := neB K (ga K "Moment") (ma K (ga K "Moment") "__eq__")) rfl),
    nfi := c.fact 31 (b := PySem.W.notFirst K (ga K "Moment") (.type "int")) rfl,
    nfm := c.fact 32 (b := PySem.W.notFirst K (ga K "Moment") (.ref (ga K "Moment"))) rfl }
  have tm := T.toTM
  obtain ⟨fd0, F0⟩ := c.def_ 0 rfl
  have F0 : FnP K "law" "law" s_law (ga K "law") fd0 := F0
  obtain ⟨fd1, F1⟩ := c.def_ 1 rfl
  have F1 : FnP K "_law_source" "_law_source" s_law_source (ga K "_law_source") fd1 := F1
  have b1 : Binds K fd1 ["script", "turn"] [] := F1.bindsN fun _ _ _ _ _ _ us hl => match us, hl with | [_, _], _ => rfl
  obtain ⟨fd2, F2⟩ := c.def_ 2 rfl
  have F2 : FnP K "_law_draw" "_law_draw" s_law_draw (ga K "_law_draw") fd2 := F2
  have b2 : Binds K fd2 ["source", "amount"] [] := F2.bindsN fun _ _ _ _ _ _ us hl => match us, hl with | [_, _], _ => rfl
  obtain ⟨fd3, F3⟩ := c.def_ 3 rfl
  have F3 : FnP K "_law_rounds" "_law_rounds" s_law_rounds (ga K "_law_rounds") fd3 := F3
  have b3 : Binds K fd3 ["source", "a", "b"] [] := F3.bindsN fun _ _ _ _ _ _ us hl => match us, hl with | [_, _, _], _ => rfl
  obtain ⟨fd4, F4⟩ := c.def_ 4 rfl
  have F4 : FnP K "is_whole" "is_whole" s_is_whole (ga K "is_whole") fd4 := F4
  have b4 : Binds K fd4 ["value"] [] := F4.bindsN fun _ _ _ _ _ _ us hl => match us, hl with | [_], _ => rfl
  obtain ⟨fd5, F5⟩ := c.def_ 5 rfl
  have F5 : FnP K "is_moment" "is_moment" s_is_moment (ga K "is_moment") fd5 := F5
  have b5 : Binds K fd5 ["value"] [] := F5.bindsN fun _ _ _ _ _ _ us hl => match us, hl with | [_], _ => rfl
  obtain ⟨fd6, F6⟩ := c.def_ 6 rfl
  have F6 : FnP K "number_of" "number_of" s_number_of (ga K "number_of") fd6 := F6
  have b6 : Binds K fd6 ["value"] [] := F6.bindsN fun _ _ _ _ _ _ us hl => match us, hl with | [_], _ => rfl
  obtain ⟨fd7, F7⟩ := c.def_ 7 rfl
  have F7 : FnP K "__init__" "Moment.__init__" s_Moment___init__ (ma K (ga K "Moment") "__init__") fd7 := F7
  have b7 : Binds K fd7 ["self", "seconds"] [] := F7.bindsN fun _ _ _ _ _ _ us hl => match us, hl with | [_, _], _ => rfl
  obtain ⟨fd8, F8⟩ := c.def_ 8 rfl
  have F8 : FnP K "seconds" "Moment.seconds" s_Moment_seconds (getA "Moment" "seconds" K) fd8 := F8
  have b8 : Binds K fd8 ["self"] [] := F8.bindsN fun _ _ _ _ _ _ us hl => match us, hl with | [_], _ => rfl
  obtain ⟨fd9, F9⟩ := c.def_ 9 rfl
  have F9 : FnP K "seen" "Moment.seen" s_Moment_seen (ma K (ga K "Moment") "seen") fd9 := F9
  have b9 : Binds K fd9 ["self", "grain"] [] := F9.bindsN fun _ _ _ _ _ _ us hl => match us, hl with | [_, _], _ => rfl
  obtain ⟨fd10, F10⟩ := c.def_ 10 rfl
  have F10 : FnP K "__add__" "Moment.__add__" s_Moment___add__ (ma K (ga K "Moment") "__add__") fd10 := F10
  have b10 : Binds K fd10 ["self", "other"] [] := F10.bindsN fun _ _ _ _ _ _ us hl => match us, hl with | [_, _], _ => rfl
  obtain ⟨fd11, F11⟩ := c.def_ 11 rfl
  have F11 : FnP K "__radd__" "Moment.__radd__" s_Moment___radd__ (ma K (ga K "Moment") "__radd__") fd11 := F11
  have b11 : Binds K fd11 ["self", "other"] [] := F11.bindsN fun _ _ _ _ _ _ us hl => match us, hl with | [_, _], _ => rfl
  obtain ⟨fd12, F12⟩ := c.def_ 12 rfl
  have F12 : FnP K "__sub__" "Moment.__sub__" s_Moment___sub__ (ma K (ga K "Moment") "__sub__") fd12 := F12
  have b12 : Binds K fd12 ["self", "other"] [] := F12.bindsN fun _ _ _ _ _ _ us hl => match us, hl with | [_, _], _ => rfl
  obtain ⟨fd13, F13⟩ := c.def_ 13 rfl
  have F13 : FnP K "__lt__" "Moment.__lt__" s_Moment___lt__ (ma K (ga K "Moment") "__lt__") fd13 := F13
  have b13 : Binds K fd13 ["self", "other"] [] := F13.bindsN fun _ _ _ _ _ _ us hl => match us, hl with | [_, _], _ => rfl
  obtain ⟨fd14, F14⟩ := c.def_ 14 rfl
  have F14 : FnP K "__le__" "Moment.__le__" s_Moment___le__ (ma K (ga K "Moment") "__le__") fd14 := F14
  have b14 : Binds K fd14 ["self", "other"] [] := F14.bindsN fun _ _ _ _ _ _ us hl => match us, hl with | [_, _], _ => rfl
  obtain ⟨fd15, F15⟩ := c.def_ 15 rfl
  have F15 : FnP K "__gt__" "Moment.__gt__" s_Moment___gt__ (ma K (ga K "Moment") "__gt__") fd15 := F15
  have b15 : Binds K fd15 ["self", "other"] [] := F15.bindsN fun _ _ _ _ _ _ us hl => match us, hl with | [_, _], _ => rfl
  obtain ⟨fd16, F16⟩ := c.def_ 16 rfl
  have F16 : FnP K "__ge__" "Moment.__ge__" s_Moment___ge__ (ma K (ga K "Moment") "__ge__") fd16 := F16
  have b16 : Binds K fd16 ["self", "other"] [] := F16.bindsN fun _ _ _ _ _ _ us hl => match us, hl with | [_, _], _ => rfl
  obtain ⟨fd17, F17⟩ := c.def_ 17 rfl
  have F17 : FnP K "__eq__" "Moment.__eq__" s_Moment___eq__ (ma K (ga K "Moment") "__eq__") fd17 := F17
  have b17 : Binds K fd17 ["self", "other"] [] := F17.bindsN fun _ _ _ _ _ _ us hl => match us, hl with | [_, _], _ => rfl
  have e := hfa.symm.trans (glo_ok X G (c.fact 0 (b := (Fa.glo "law").ok K) rfl))
  cases e
  have bl := FunD.bindsA (ps := ["script"]) F0 fun _ _ _ _ _ _ us hl => match us, hl with | [_], _ => rfl
  refine ⟨fd0, fun s v => bl s [v] rfl, fun base _ _ => ?_⟩
  have D_law_source : Dn P w K mg base 2 (ga K "_law_source") ["script", "turn"] (spSource K) := ⟨⟨fd1, ok_source F1 T.toTL, b1⟩, F1.kp⟩
  have D_law_draw : Dn P w K mg base 2 (ga K "_law_draw") ["source", "amount"] (spDraw) := ⟨⟨fd2, ok_draw F2 T.toTL, b2⟩, F2.kp⟩
  have D_is_whole : Dn P w K mg base 2 (ga K "is_whole") ["value"] (spWhole) := ⟨⟨fd4, ok_whole F4 tm, b4⟩, F4.kp⟩
  have D_is_moment : Dn P w K mg base 4 (ga K "is_moment") ["value"] (spIsMo) := ⟨⟨fd5, ok_ismo F5 tm D_is_whole, b5⟩, F5.kp⟩
  have D_number_of : Dn P w K mg base 2 (ga K "number_of") ["value"] (spNum (ga K "Moment")) := ⟨⟨fd6, ok_num F6 tm, b6⟩, F6.kp⟩
  have M_Moment : Mn P w K mg base 6 (ga K "Moment") ["self", "seconds"] (spInit (ga K "Moment")) := ⟨⟨_, fd7, ok_init F7 tm D_is_moment, b7, mkr_ok (c.fact 33 (b := (Fa.mkr "Moment").ok K) rfl)⟩⟩
  have R_seconds : Rn P w K mg base 2 (ga K "Moment") "seconds" (spSec (ga K "Moment")) := ⟨⟨_, _, fd8, ["self"], propB_ok (c.fact 35 (b := propB K (ga K "Moment") "seconds" (getA "Moment" "seconds" K)) rfl), ok_sec F8 tm, b8⟩, tm.cl⟩
  have H_seen : Hn P w K mg base 9 (ga K "Moment") "seen" (spSeen (ga K "Moment")) := ⟨⟨_, fd9, ["self", "grain"], ok_seen F9 tm D_is_whole M_Moment, b9, meth_ok (c.fact 34 (b := (Fa.meth "Moment" "seen").ok K) rfl)⟩, tm.cl⟩
  have D_add : Dn P w K mg base 9 (ma K (ga K "Moment") "__add__") ["self", "other"] (spPlus (ga K "Moment") fun n k => n + k) := ⟨⟨fd10, ok_plus F10 tm D_is_whole M_Moment, b10⟩, F10.kp⟩
  have D_radd : Dn P w K mg base 11 (ma K (ga K "Moment") "__radd__") ["self", "other"] (spPlus (ga K "Moment") fun n k => n + k) := ⟨⟨fd11, ok_radd F11 tm D_add, b11⟩, F11.kp⟩
  have D_sub : Dn P w K mg base 9 (ma K (ga K "Moment") "__sub__") ["self", "other"] (spSub (ga K "Moment")) := ⟨⟨fd12, ok_sub F12 tm D_is_whole M_Moment, b12⟩, F12.kp⟩
  have D_lt : Dn P w K mg base 4 (ma K (ga K "Moment") "__lt__") ["self", "other"] (spCmp (ga K "Moment") fun n m => decide (n < m)) := ⟨⟨fd13, ok_lt F13 tm D_number_of, b13⟩, F13.kp⟩
  have D_le : Dn P w K mg base 4 (ma K (ga K "Moment") "__le__") ["self", "other"] (spCmp (ga K "Moment") fun n m => decide (n ≤ m)) := ⟨⟨fd14, ok_le F14 tm D_number_of, b14⟩, F14.kp⟩
  have D_gt : Dn P w K mg base 4 (ma K (ga K "Moment") "__gt__") ["self", "other"] (spCmp (ga K "Moment") fun n m => decide (m < n)) := ⟨⟨fd15, ok_gt F15 tm D_number_of, b15⟩, F15.kp⟩
  have D_ge : Dn P w K mg base 4 (ma K (ga K "Moment") "__ge__") ["self", "other"] (spCmp (ga K "Moment") fun n m => decide (m ≤ n)) := ⟨⟨fd16, ok_ge F16 tm D_number_of, b16⟩, F16.kp⟩
  have D_eq : Dn P w K mg base 4 (ma K (ga K "Moment") "__eq__") ["self", "other"] (spEqM (ga K "Moment")) := ⟨⟨fd17, ok_eq F17 tm, b17⟩, F17.kp⟩
  have D_law_rounds : Dn P w K mg base 12 (ga K "_law_rounds") ["source", "a", "b"] (spRounds (ga K "Moment")) := ⟨⟨fd3, ok_rounds F3 T D_law_draw R_seconds H_seen D_add D_sub D_le D_eq, b3⟩, F3.kp⟩
  exact ok_law F0 T D_law_draw D_law_source D_law_rounds M_Moment D_add D_radd D_sub D_lt D_le D_gt D_ge D_eq
end

end K59
open PySem PySem.W PySem.Calls PyProof.Rows
set_option maxRecDepth 100000 in
set_option maxHeartbeats 0 in
theorem PySem.Challenge.cw_agedfiles_k59_whole_moments_as_numbers_holds : PySem.Challenge.rw_agedfiles_k59_whole_moments_as_numbers.Holds := by
  w_on; o_law
  refine HandSHeadRun.head_any (r := OpenLaw.row PySem.Challenge.rw_agedfiles_k59_whole_moments_as_numbers) (q := view (OpenLaw.row PySem.Challenge.rw_agedfiles_k59_whole_moments_as_numbers).prog [15]) (H := K59.hk) (ob := K59.ob) (M := 3000) (loose := K59.names) (d := HandSHeadRun.topDef (OpenLaw.row PySem.Challenge.rw_agedfiles_k59_whole_moments_as_numbers).prog 15) (kwd := []) K59.ob_eq
    (by kernel_rfl) (fun s => by kernel_rfl) K59.run (by kernel_rfl) (by kernel_rfl) (by kernel_rfl) (by rfl) (by first | assumption | decide +kernel) (by decide +kernel) ⟨rfl, rfl, rfl, rfl, rfl, by decide +kernel⟩ ?hw ?hc
  case hw => w_witness2
  case hc =>
    refine LamX.walk_ofTsE (l := PySem.Challenge.rw_agedfiles_k59_whole_moments_as_numbers) (n := 63) (k := 14) (x := "script") (CX := fun w => L2.CX (PySem.Challenge.rw_agedfiles_k59_whole_moments_as_numbers).prog w) rfl (by decide) (by kernel_rfl) ⟨rfl, by decide, by decide⟩ ?F (fun _ _ _ _ _ z => ?N)
    case N =>
      obtain ⟨_, _, _, _, _, _, _, _, _, _, _, _, h⟩ := z
      exact h
    case F =>
      intro w mg fa h Y G hmg0
      obtain ⟨K, KX, c⟩ := Y
      have hmg : mg ("law" : PySem.Str) = some (.ref fa) := by
        have e : (HandSHeadRun.topDef (OpenLaw.row PySem.Challenge.rw_agedfiles_k59_whole_moments_as_numbers).prog 15).name = ("law" : PySem.Str) := by kernel_rfl
        rw [← e]
        exact hmg0
      obtain ⟨fd, hb, hF⟩ := K59.all_ok (P := (PySem.Challenge.rw_agedfiles_k59_whole_moments_as_numbers).prog) (w := w) KX G hmg c
      exact ⟨K, KX, fd, [], K59.spLaw K, (fun _ h => nomatch h), (fun _ h => nomatch h), (fun _ h => nomatch h), hb, fun H a ns hl _ _ hS => ⟨a, ns, rfl, hS, hl, fun _ => rfl⟩, fun base h1 h2 _ => hF base h1 h2⟩
