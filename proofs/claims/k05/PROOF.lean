import PyProof.Rows.All
import Wide.All
import OpenK.AllK
import Wide.FinOn
import HandS.ForExc
import HandS.Comp
import HandS.Wide
import HandS.IsInst
import HandS.Codes
import HandS.ExcInit
import HandS.Property
import HandS.Defaults
import HandS.HeadHook2
import HandS.HeadEnd
import HandS.HeadNt
import HandS.Head2
import KE.DataEq
import HandS.NoneIn
import HandS.SetFor
import HandS.More
import HandS.Dict
import HandS.Small
import HandS.ClsMeth
import HandS.ExcField
import HandS.ExcIs
import HandS.TryMany
import HandS.DictComp
import HandS.Iter
import HandS.Conv
import KE.KCallOwn
import HandS.Style
import HandS.TupLe
import HandS.HeadHook3
import HandS.HeadWalk
import HandS.Star
import HandS.TupAny
import HandS.SortInts
import PyProof.Rows.Range3
import PyProof.Conv_bool
import KE.KTupTruth
import KE.GoesMore
import OpenK.KOps
import HandS.Flow
import HandS.RaiseMore
import PyProof.RowDictHeap
import HandS.CallSlots
import HandS.Strs
import HandS.Lambda
import KE.KNestM
import PySem.Challenge.RW_agedfiles_k05_stretches_refused
set_option Elab.async false
set_option linter.all false
set_option maxRecDepth 100000
set_option maxHeartbeats 4000000
namespace AF
open PySem PySem.Spec PyProof.Rows L2

theorem rm {j k : Nat} {A : Around} (r : Room k A) (h : j ≤ k := by decide) : Room j A := r.mono h
/-! what stands on the heap, told by a list -/
abbrev Ent := Addr × HO × Bool
def tag (e : Ent) : Addr × Bool := (e.1, e.2.2)
def Apart (a b : Addr × Bool) : Prop := a.2 = true ∨ b.2 = true → a.1 ≠ b.1
structure Sh (H0 : Hp) (M : Addr → Prop) (H : Hp) (l : List Ent) : Prop where
  fr : ∀ b o, H0 b = some o → ¬ M b → H b = some o
  has : ∀ e, e ∈ l → H e.1 = some e.2.1
  ap : (l.map tag).Pairwise Apart
  mu : ∀ e, e ∈ l → e.2.2 = true → M e.1 ∨ H0 e.1 = none
/-- what a call leaves as it was: all but ms -/
def Ch (ms : List Addr) (H H' : Hp) : Prop := ∀ b o, H b = some o → b ∉ ms → H' b = some o
theorem Ch.rfl' {ms : List Addr} {H : Hp} : Ch ms H H := fun _ _ h _ => h
inductive Rep : List Ent → Addr → HO → HO → List Ent → Prop where
  | here {p : Addr} {o o' : HO} {r : List Ent} : Rep ((p, o, true) :: r) p o o' ((p, o', true) :: r)
  | next {e : Ent} {l : List Ent} {p : Addr} {o o' : HO} {l' : List Ent} : Rep l p o o' l' → Rep (e :: l) p o o' (e :: l')
theorem Rep.tags {l l' : List Ent} {p : Addr} {o o' : HO} (r : Rep l p o o' l') : l'.map tag = l.map tag := by
  induction r with
  | here => rfl
  | next _ ih => rw [List.map_cons, List.map_cons, ih]
theorem Rep.mem {l l' : List Ent} {p : Addr} {o o' : HO} (r : Rep l p o o' l') : (p, o, true) ∈ l := by
  induction r with
  | here => exact List.mem_cons_self
  | next _ ih => exact List.mem_cons_of_mem _ ih
theorem Rep.mem' {l l' : List Ent} {p : Addr} {o o' : HO} (r : Rep l p o o' l') : (p, o', true) ∈ l' := by
  induction r with
  | here => exact List.mem_cons_self
  | next _ ih => exact List.mem_cons_of_mem _ ih
theorem Rep.other {l l' : List Ent} {p : Addr} {o o' : HO} (r : Rep l p o o' l') (ap : (l.map tag).Pairwise Apart) : ∀ e, e ∈ l' → e = (p, o', true) ∨ (e ∈ l ∧ e.1 ≠ p) := by
  induction r with
  | here =>
    intro e he
    rcases List.mem_cons.mp he with h | h
    · exact .inl h
    · rw [List.map_cons, List.pairwise_cons] at ap
      exact .inr ⟨List.mem_cons_of_mem _ h, fun z => ap.1 (tag e) (List.mem_map.mpr ⟨e, h, rfl⟩) (.inl rfl) z.symm⟩
  | @next e0 l p o o' l' r ih =>
    intro e he
    rw [List.map_cons, List.pairwise_cons] at ap
    rcases List.mem_cons.mp he with h | h
    · subst h
      refine .inr ⟨List.mem_cons_self, fun z => ?_⟩
      exact ap.1 (tag (p, o, true)) (List.mem_map.mpr ⟨_, r.mem, rfl⟩) (.inr rfl) z
    · rcases ih ap.2 e h with h | ⟨h, n⟩
      · exact .inl h
      · exact .inr ⟨List.mem_cons_of_mem _ h, n⟩
inductive On : List Ent → Addr → HO → Prop where
  | here {p : Addr} {o : HO} {m : Bool} {r : List Ent} : On ((p, o, m) :: r) p o
  | next {e : Ent} {l : List Ent} {p : Addr} {o : HO} : On l p o → On (e :: l) p o
theorem On.mem {l : List Ent} {p : Addr} {o : HO} (h : On l p o) : ∃ m, (p, o, m) ∈ l := by
  induction h with
  | here => exact ⟨_, List.mem_cons_self⟩
  | next _ ih =>
    obtain ⟨m, h⟩ := ih
    exact ⟨m, List.mem_cons_of_mem _ h⟩
section
variable {H0 : Hp} {M : Addr → Prop} {H H' : Hp} {l l' : List Ent} {p q b : Addr} {o o' : HO} {m : Bool}
theorem Sh.at_ (S : Sh H0 M H l) (h : (p, o, m) ∈ l) : H p = some o := S.has _ h
theorem Sh.has_ (S : Sh H0 M H l) (h : On l p o) : H p = some o := by
  obtain ⟨m, h⟩ := h.mem
  exact S.has _ h
theorem Sh.ch0 (S : Sh H0 M H l) (c : Ch [] H H') : Sh H0 M H' l :=
  ⟨fun b o h n => c b o (S.fr b o h n) List.not_mem_nil, fun e he => c _ _ (S.has e he) List.not_mem_nil, S.ap, S.mu⟩
theorem Sh.ch1 (S : Sh H0 M H l) (r : Rep l p o o' l') (c : Ch [p] H H') (h : H' p = some o') : Sh H0 M H' l' := by
  have mp := S.mu _ r.mem rfl
  refine ⟨fun b u hb n => ?_, fun e he => ?_, by rw [r.tags]; exact S.ap, fun e he hm => ?_⟩
  · by_cases e : b = p
    · subst e
      rcases mp with k | k
      · exact absurd k n
      · rw [show H0 b = none from k] at hb; cases hb
    · exact c b u (S.fr b u hb n) (by simpa using e)
  · rcases r.other S.ap e he with h1 | ⟨h1, h2⟩
    · rw [h1]; exact h
    · exact c _ _ (S.has e h1) (by simpa using h2)
  · rcases r.other S.ap e he with h1 | ⟨h1, _⟩
    · rw [h1]; exact mp
    · exact S.mu e h1 hm
theorem Sh.add (S : Sh H0 M H l) (c : Ch [] H H') (hn : H q = none) (h : H' q = some o) : Sh H0 M H' ((q, o, true) :: l) := by
  have S' := S.ch0 c
  refine ⟨S'.fr, fun e he => ?_, ?_, fun e he hm => ?_⟩
  · rcases List.mem_cons.mp he with h1 | h1
    · rw [h1]; exact h
    · exact S'.has e h1
  · rw [List.map_cons, List.pairwise_cons]
    refine ⟨fun t ht _ z => ?_, S.ap⟩
    obtain ⟨e, he, rfl⟩ := List.mem_map.mp ht
    have z' : q = e.1 := z
    have := S.has e he
    rw [← z', hn] at this; cases this
  · rcases List.mem_cons.mp he with h1 | h1
    · rw [h1]
      by_cases k : M q
      · exact .inl k
      · refine .inr ?_
        cases e0 : H0 q with
        | none => rfl
        | some u => rw [S.fr q u e0 k] at hn; cases hn
    · exact S.mu e h1 hm
theorem ch_upd_new (hn : H p = none) : Ch [] H (upd H p o) := fun b u h _ => by
  rw [upd_ne (ne_of_none h hn)]; exact h
theorem ch_upd : Ch [p] H (upd H p o) := fun b u h n => by
  rw [upd_ne (by simpa using n)]; exact h
theorem Sh.new (S : Sh H0 M H l) (hn : H p = none) : Sh H0 M (upd H p o) ((p, o, true) :: l) := S.add (ch_upd_new hn) hn upd_same
theorem Sh.put (S : Sh H0 M H l) (r : Rep l p o o' l') : Sh H0 M (upd H p o') l' := S.ch1 r ch_upd upd_same
theorem Sh.out {ms : List Addr} (S : Sh H0 M H l) (h : ∀ b, M b → b ∈ ms) : Ch ms H0 H := fun b o hb n => S.fr b o hb fun k => n (h b k)
theorem Sh.was (S : Sh H0 M H l) (hn : H q = none) (k : ¬ M q) : H0 q = none := by
  cases e0 : H0 q with
  | none => rfl
  | some u => rw [S.fr q u e0 k] at hn; cases hn
theorem Sh.seq {K : PySem.W.Frag} {a : Addr} {xs : List V} (S : Sh H0 M H l) (k : ¬ M a) (h : SqL K H0 a xs) : SqL K H a xs := by
  rcases h with (h | ⟨o, h⟩) | h
  · exact .inl (.inl (S.fr _ _ h k))
  · exact .inl (.inr ⟨o, S.fr _ _ h k⟩)
  · exact .inr h
theorem Sh.start {M : Addr → Prop} : Sh H M H [] := ⟨fun _ _ h _ => h, fun _ h => (nomatch h), List.Pairwise.nil, fun _ h => (nomatch h)⟩
/-- one more thing that stands, not to be changed, apart from what may be -/
theorem Sh.know (S : Sh H0 M H l) (h : H p = some o) (d : ∀ e, e ∈ l → e.2.2 = true → p ≠ e.1) : Sh H0 M H ((p, o, false) :: l) := by
  refine ⟨S.fr, fun e he => ?_, ?_, fun e he hm => ?_⟩
  · rcases List.mem_cons.mp he with h1 | h1
    · rw [h1]; exact h
    · exact S.has e h1
  · rw [List.map_cons, List.pairwise_cons]
    refine ⟨fun t ht k => ?_, S.ap⟩
    obtain ⟨e, he, rfl⟩ := List.mem_map.mp ht
    rcases k with k | k
    · cases k
    · exact d e he k
  · rcases List.mem_cons.mp he with h1 | h1
    · rw [h1] at hm; cases hm
    · exact S.mu e h1 hm
/-- one that may be changed -/
theorem Sh.take (S : Sh H0 M H l) (h : H p = some o) (k : M p) (d : ∀ e, e ∈ l → p ≠ e.1) : Sh H0 M H ((p, o, true) :: l) := by
  refine ⟨S.fr, fun e he => ?_, ?_, fun e he hm => ?_⟩
  · rcases List.mem_cons.mp he with h1 | h1
    · rw [h1]; exact h
    · exact S.has e h1
  · rw [List.map_cons, List.pairwise_cons]
    refine ⟨fun t ht _ => ?_, S.ap⟩
    obtain ⟨e, he, rfl⟩ := List.mem_map.mp ht
    exact d e he
  · rcases List.mem_cons.mp he with h1 | h1
    · rw [h1]; exact .inl k
    · exact S.mu e h1 hm
end

/-! slots -/
inductive SetS : L2.St → Nat → V → L2.St → Prop where
  | z {a : Option V} {r : L2.St} {x : V} : SetS (a :: r) 0 x (some x :: r)
  | s {a : Option V} {r r' : L2.St} {i : Nat} {x : V} : SetS r i x r' → SetS (a :: r) (i + 1) x (a :: r')
theorem SetS.eq {σ σ' : L2.St} {i : Nat} {x : V} (h : SetS σ i x σ') : σ.set i (some x) = σ' := by
  induction h with
  | z => rfl
  | s _ ih => rw [List.set_cons_succ, ih]

/-! what is asked behind a part, by name -/
def kB (Q : Bool → Hp → Prop) (x : V) (H : Hp) : Prop := ∃ k, x = .bl k ∧ Q k H
def kAnd (Q : VK) (tb : TE) (σ : L2.St) (x : V) (H : Hp) : Prop := ∃ c, x = .bl c ∧ if c = true then tb σ H Q else Q (.bl false) H
def kOr (Q : VK) (tb : TE) (σ : L2.St) (x : V) (H : Hp) : Prop := ∃ c, x = .bl c ∧ if c = true then Q (.bl true) H else tb σ H Q
def kNot (Q : VK) (x : V) (H : Hp) : Prop := ∃ c, x = .bl c ∧ Q (.bl (!c)) H
def kLst (Q : VK) (xs : List V) (H : Hp) : Prop := xs.length ≤ sizeLine ∧ ∀ p, H p = none → Q (.ref p) (upd H p (.lst xs))
def kTup (Q : VK) (xs : List V) (H : Hp) : Prop := xs.length ≤ sizeLine ∧ ∀ p, H p = none → Q (.ref p) (upd H p (.tup xs))
def kFld (K : PySem.W.Frag) (f : Str) (Q : VK) (x : V) (H : Hp) : Prop := ∃ a C dx fs v, x = .ref a ∧ H a = some (.ins C dx fs) ∧ Cls K C ∧ NoAttr K C f ∧ fs.lookup f = some v ∧ Q v H
def kSFld (K : PySem.W.Frag) (f : Str) (P : Hp → Prop) (y x : V) (H : Hp) : Prop := ∃ a C dx fs, x = .ref a ∧ H a = some (.ins C dx fs) ∧ Cls K C ∧ NoAttr K C f ∧ fs.length < 1000 ∧ P (upd H a (.ins C dx (putF f y fs)))
def kPar (nx : L2.St → Hp → Prop) (σ : L2.St) (i j : Nat) (vs : List V) (H : Hp) : Prop := ∃ v w, vs = [v, w] ∧ nx ((σ.set i (some v)).set j (some w)) H

/-! one step each -/
section
variable {σ σ' : L2.St} {H : Hp} {Q : VK} {nx : L2.St → Hp → Prop} {rt : VK} {bk ct : L2.St → Hp → Prop} {ta tb te : TE} {t u : TS} {c : TT} {i j : Int} {x y : V} {K : PySem.W.Frag} {a C dx : Addr} {fs : List (Str × V)} {f : Str} {v : V}
theorem g_seq (h : t ⟨fun σ H => u ⟨nx, rt, bk, ct⟩ σ H, rt, bk, ct⟩ σ H) : tSeq t u ⟨nx, rt, bk, ct⟩ σ H := h
theorem g_next (h : nx σ H) : tNext ⟨nx, rt, bk, ct⟩ σ H := h
theorem g_asg {i : Nat} (h : te σ H fun x H1 => nx (σ.set i (some x)) H1) : tAsg te (gName i) ⟨nx, rt, bk, ct⟩ σ H := h
theorem g_set {i : Nat} {P : L2.St → Hp → Prop} (s : SetS σ i x σ') (h : P σ' H) : P (σ.set i (some x)) H := by rw [s.eq]; exact h
theorem g_ret (h : te σ H rt) : tRet te ⟨nx, rt, bk, ct⟩ σ H := h
theorem g_retN (h : rt .non H) : tRetN ⟨nx, rt, bk, ct⟩ σ H := h
theorem g_drop (h : te σ H fun _ H1 => nx σ H1) : tDrop te ⟨nx, rt, bk, ct⟩ σ H := h
theorem g_if (h : c σ H fun b H1 => if b = true then t ⟨nx, rt, bk, ct⟩ σ H1 else u ⟨nx, rt, bk, ct⟩ σ H1) : tIfS c t u ⟨nx, rt, bk, ct⟩ σ H := h
theorem g_var {i : Nat} (h : σ[i]? = some (some v)) (q : Q v H) : tVar i σ H Q := ⟨v, h, q⟩
theorem g_c (q : Q v H) : tC v σ H Q := q
theorem g_op {r : R2} (h : ta σ H fun x H1 => tb σ H1 fun y H2 => r x y H2 Q) : tOp r ta tb σ H Q := h
theorem g_un {r : V → Hp → VK → Prop} (h : ta σ H fun x H1 => r x H1 Q) : tUn r ta σ H Q := h
theorem g_I0 {g : Int → Int → V} (q : Q (g i j) H) : rI0 g (.int i) (.int j) H Q := ⟨i, j, rfl, rfl, q⟩
theorem g_I {D : Int → Int → Prop} {g : Int → Int → V} (d : D i j) (q : Q (g i j) H) : rI D g (.int i) (.int j) H Q := ⟨i, j, rfl, rfl, d, q⟩
theorem g_U {g : Int → V} (q : Q (g i) H) : rU g (.int i) H Q := ⟨i, rfl, q⟩
theorem g_eqI (q : Q (.bl (decide (i = j))) H) : rEq (.int i) (.int j) H Q := ⟨rfl, by
  have e : decide (V.int i = V.int j) = decide (i = j) := by rw [dec_int]; rfl
  rw [e]; exact q⟩
theorem g_neI (q : Q (.bl (!decide (i = j))) H) : rNe (.int i) (.int j) H Q := ⟨rfl, by
  have e : decide (V.int i = V.int j) = decide (i = j) := by rw [dec_int]; rfl
  rw [e]; exact q⟩
theorem g_test {Q : Bool → Hp → Prop} (h : te σ H (kB Q)) : tTest te σ H Q := h
theorem g_tB {Q : Bool → Hp → Prop} (h : te σ H (kB Q)) : tB te σ H Q := h
theorem g_kb {Q : Bool → Hp → Prop} {k : Bool} (q : Q k H) : kB Q (.bl k) H := ⟨k, rfl, q⟩
theorem g_kand {k : Bool} (q : if k = true then tb σ H Q else Q (.bl false) H) : kAnd Q tb σ (.bl k) H := ⟨k, rfl, q⟩
theorem g_kor {k : Bool} (q : if k = true then Q (.bl true) H else tb σ H Q) : kOr Q tb σ (.bl k) H := ⟨k, rfl, q⟩
theorem g_knot {k : Bool} (q : Q (.bl (!k)) H) : kNot Q (.bl k) H := ⟨k, rfl, q⟩
theorem g_tnot {Q : Bool → Hp → Prop} (h : c σ H fun k H1 => Q (!k) H1) : tNot c σ H Q := h
theorem g_tand {d : TT} {Q : Bool → Hp → Prop} (h : c σ H fun k H1 => if k = true then d σ H1 Q else Q false H1) : tAnd c d σ H Q := h
theorem g_tor {d : TT} {Q : Bool → Hp → Prop} (h : c σ H fun k H1 => if k = true then Q true H1 else d σ H1 Q) : tOr c d σ H Q := h
theorem g_andV (h : ta σ H (kAnd Q tb σ)) : tAndV ta tb σ H Q := h
theorem g_orV (h : ta σ H (kOr Q tb σ)) : tOrV ta tb σ H Q := h
theorem g_notV (h : ta σ H (kNot Q)) : tNotV ta σ H Q := h
theorem g_ifE (h : c σ H fun k H1 => if k = true then ta σ H1 Q else tb σ H1 Q) : tIf c ta tb σ H Q := h
theorem g_nil {Q : List V → Hp → Prop} (q : Q [] H) : tNil σ H Q := q
theorem g_cons {tr : TA} {Q : List V → Hp → Prop} (h : ta σ H fun x H1 => tr σ H1 fun xs H2 => Q (x :: xs) H2) : tCons ta tr σ H Q := h
theorem g_cb {r : List V → Hp → VK → Prop} {tr : TA} (h : tr σ H fun vs H1 => r vs H1 Q) : tCB r tr σ H Q := h
theorem g_call {sp : Sp} {E : XK} {tr : TA} (h : tr σ H fun vs H1 => sp vs H1 Q E) : tCall sp [] E tr σ H Q := by
  have e : (fun (vs : List V) (H1 : Hp) => sp (vs ++ []) H1 Q E) = fun vs H1 => sp vs H1 Q E := by
    funext vs H1; rw [List.append_nil]
  show tr σ H fun vs H1 => sp (vs ++ []) H1 Q E
  rw [e]; exact h
theorem g_lst {tr : TA} (h : tr σ H (kLst Q)) : tLst tr σ H Q := h
theorem g_tup {tr : TA} (h : tr σ H (kTup Q)) : tTup tr σ H Q := h
theorem line_of {n : Nat} (h : Nat.ble n 1000 = true) : n ≤ sizeLine := Nat.le_trans (Nat.le_of_ble_eq_true h) (Nat.le_of_lt (small1000 (Nat.le_refl _)))
theorem g_klst {H0 : Hp} {M : Addr → Prop} {l : List Ent} {xs : List V} (S : Sh H0 M H l) (hn : Nat.ble xs.length 1000 = true) (q : ∀ p H', H p = none → Sh H0 M H' ((p, .lst xs, true) :: l) → Q (.ref p) H') : kLst Q xs H := ⟨line_of hn, fun p hp => q p _ hp (S.new hp)⟩
theorem g_ktup {H0 : Hp} {M : Addr → Prop} {l : List Ent} {xs : List V} (S : Sh H0 M H l) (hn : Nat.ble xs.length 1000 = true) (q : ∀ p H', H p = none → Sh H0 M H' ((p, .tup xs, true) :: l) → Q (.ref p) H') : kTup Q xs H := ⟨line_of hn, fun p hp => q p _ hp (S.new hp)⟩
theorem g_fld (h : ta σ H (kFld K f Q)) : tFld K ta f σ H Q := h
theorem g_kfld (ho : H a = some (.ins C dx fs)) (hc : Cls K C) (hn : NoAttr K C f) (hl : fs.lookup f = some v) (q : Q v H) : kFld K f Q (.ref a) H :=
  ⟨a, C, dx, fs, v, rfl, ho, hc, hn, hl, q⟩
theorem g_sfld {tv : TE} (h : tv σ H fun y H1 => ta σ H1 (kSFld K f (nx σ) y)) : sFld K ta tv f ⟨nx, rt, bk, ct⟩ σ H := h
theorem g_ksfld {H0 : Hp} {M : Addr → Prop} {l l' : List Ent} {P : Hp → Prop} (S : Sh H0 M H l) (r : Rep l a (.ins C dx fs) (.ins C dx (putF f y fs)) l') (hc : Cls K C) (hn : NoAttr K C f) (hl : fs.length < 1000) (q : ∀ H', Sh H0 M H' l' → P H') : kSFld K f P y (.ref a) H :=
  ⟨a, C, dx, fs, rfl, S.has _ r.mem, hc, hn, hl, q _ (S.put r)⟩
theorem g_ixL {p : Addr} {xs : List V} (h : H p = some (.lst xs)) (ha : atI xs i = some v) (q : Q v H) : rIxL K (.ref p) (.int i) H Q := ⟨p, xs, i, v, rfl, rfl, SqL.of h, ha, q⟩
theorem g_ixQ {p : Addr} {xs : List V} (h : SqL K H p xs) (ha : atI xs i = some v) (q : Q v H) : rIxL K (.ref p) (.int i) H Q := ⟨p, xs, i, v, rfl, rfl, h, ha, q⟩
theorem g_sub {to ti : TE} {s : TSet} (h : te σ H fun x H1 => to σ H1 fun o H2 => ti σ H2 fun i H3 => s o i x H3 fun H4 => nx σ H4) : tAsg te (gSub to ti s) ⟨nx, rt, bk, ct⟩ σ H := h
theorem g_setL {H0 : Hp} {M : Addr → Prop} {l l' : List Ent} {P : Hp → Prop} {p : Addr} {xs : List V} {j : Nat} (S : Sh H0 M H l) (r : Rep l p (.lst xs) (.lst (xs.set j v)) l') (hj : ixN xs.length i = some j) (q : ∀ H', Sh H0 M H' l' → P H') :
    rSetL (.ref p) (.int i) v H P := ⟨p, xs, i, j, rfl, rfl, S.has _ r.mem, hj, q _ (S.put r)⟩
theorem g_par {i j : Nat} {tr : TA} (h : tr σ H (kPar nx σ i j)) : tPar i j tr ⟨nx, rt, bk, ct⟩ σ H := h
theorem g_kpar {i j : Nat} {σ2 : L2.St} (s : SetS σ i x σ') (s2 : SetS σ' j y σ2) (q : nx σ2 H) : kPar nx σ i j [x, y] H := ⟨x, y, rfl, by rw [s.eq, s2.eq]; exact q⟩
end

/-! the slots at the entry -/
inductive Ent0 : List Str → List V → L2.St → Prop where
  | nil : Ent0 [] [] []
  | val {x : Str} {N : List Str} {v : V} {vs : List V} {σ : L2.St} : Ent0 N vs σ → Ent0 (x :: N) (v :: vs) (some v :: σ)
  | non {x : Str} {N : List Str} {σ : L2.St} : Ent0 N [] σ → Ent0 (x :: N) [] (none :: σ)
theorem Ent0.eq {N : List Str} {vs : List V} {σ : L2.St} (h : Ent0 N vs σ) : L2.start N vs = σ := by
  induction h with
  | nil => rfl
  | @val x N v vs σ _ ih =>
    have e : (x :: N).length - (v :: vs).length = N.length - vs.length := by simp
    unfold L2.start at ih ⊢
    rw [e, List.map_cons, List.cons_append, ih]
  | @non x N σ _ ih =>
    unfold L2.start at ih ⊢
    simp only [List.map_nil, List.nil_append, List.length_cons, List.length_nil, Nat.sub_zero, List.replicate_succ] at ih ⊢
    rw [ih]
theorem g_start {N : List Str} {vs : List V} {σ : L2.St} {P : L2.St → Hp → Prop} {H : Hp} (h : Ent0 N vs σ) (q : P σ H) : P (L2.start N vs) H := by rw [h.eq]; exact q

theorem cdivw {i j : Int} (h1 : 1 ≤ j) (h2 : j ≤ 10 ^ 60) : CDivW i j := by
  refine wide_div (b := 200) (by omega) ?_ (by decide) (by decide)
  have e : ((j.natAbs : Nat) : Int) = j := Int.natAbs_of_nonneg (by omega)
  have e2 : ((10 : Int) ^ 60) < 2 ^ 200 := by decide
  have h : ((j.natAbs : Nat) : Int) < ((2 ^ 200 : Nat) : Int) := by
    rw [e]
    exact Int.lt_of_le_of_lt h2 (by decide)
  exact Int.ofNat_lt.mp h
/-! built-ins by named readings -/
def rInt1 : List V → Hp → VK → Prop := fun xs H Q => (∃ i, xs = [.int i] ∧ Q (.int i) H) ∨ ∃ k, xs = [.bl k] ∧ Q (.int (if k then 1 else 0)) H
def rAbs1 : List V → Hp → VK → Prop := fun xs H Q => ∃ i, xs = [.int i] ∧ Q (.int (if i < 0 then -i else i)) H
def rMaxI : List V → Hp → VK → Prop := fun xs H Q => ∃ i j, xs = [.int i, .int j] ∧ Q (.int (if j > i then j else i)) H
def rMinI : List V → Hp → VK → Prop := fun xs H Q => ∃ i j, xs = [.int i, .int j] ∧ Q (.int (if j < i then j else i)) H
def rLenQ (K : PySem.W.Frag) : List V → Hp → VK → Prop := fun xs H Q => ∃ p ys, xs = [.ref p] ∧ (SqL K H p ys ∨ SqT K H p ys) ∧ Q (.int ys.length) H
section
variable {X : Cx} {H : Hp} {Q : VK} {i j : Int} {K : PySem.W.Frag} {p : Addr} {xs : List V}
theorem cl_int : CallR X (.type "int") rInt1 := call_int1
theorem cl_abs : CallR X (.builtin "abs") rAbs1 := call_abs
theorem cl_max (hc : X.calm = true) : CallR X (.builtin "max") rMaxI := call_max2 hc
theorem cl_min (hc : X.calm = true) : CallR X (.builtin "min") rMinI := call_min2 hc
theorem cl_len : CallR X (.builtin "len") (rLenQ X.K) := call_len_seq
theorem g_pow10_2 (q : Q (.int 100) H) : rI CPow (fun i j => .int (i ^ j.toNat)) (.int 10) (.int 2) H Q := by
  refine ⟨10, 2, rfl, rfl, ⟨by decide, by decide, by decide⟩, ?_⟩
  have e : ((10 : Int) ^ (2 : Int).toNat) = 100 := by decide
  show Q (.int ((10 : Int) ^ (2 : Int).toNat)) H
  rw [e]; exact q
theorem g_pow10_3 (q : Q (.int 1000) H) : rI CPow (fun i j => .int (i ^ j.toNat)) (.int 10) (.int 3) H Q := by
  refine ⟨10, 3, rfl, rfl, ⟨by decide, by decide, by decide⟩, ?_⟩
  have e : ((10 : Int) ^ (3 : Int).toNat) = 1000 := by decide
  show Q (.int ((10 : Int) ^ (3 : Int).toNat)) H
  rw [e]; exact q
theorem g_pow10_4 (q : Q (.int 10000) H) : rI CPow (fun i j => .int (i ^ j.toNat)) (.int 10) (.int 4) H Q := by
  refine ⟨10, 4, rfl, rfl, ⟨by decide, by decide, by decide⟩, ?_⟩
  have e : ((10 : Int) ^ (4 : Int).toNat) = 10000 := by decide
  show Q (.int ((10 : Int) ^ (4 : Int).toNat)) H
  rw [e]; exact q
theorem g_pow10_5 (q : Q (.int 100000) H) : rI CPow (fun i j => .int (i ^ j.toNat)) (.int 10) (.int 5) H Q := by
  refine ⟨10, 5, rfl, rfl, ⟨by decide, by decide, by decide⟩, ?_⟩
  have e : ((10 : Int) ^ (5 : Int).toNat) = 100000 := by decide
  show Q (.int ((10 : Int) ^ (5 : Int).toNat)) H
  rw [e]; exact q
theorem g_pow10_6 (q : Q (.int 1000000) H) : rI CPow (fun i j => .int (i ^ j.toNat)) (.int 10) (.int 6) H Q := by
  refine ⟨10, 6, rfl, rfl, ⟨by decide, by decide, by decide⟩, ?_⟩
  have e : ((10 : Int) ^ (6 : Int).toNat) = 1000000 := by decide
  show Q (.int ((10 : Int) ^ (6 : Int).toNat)) H
  rw [e]; exact q
theorem g_pow10_7 (q : Q (.int 10000000) H) : rI CPow (fun i j => .int (i ^ j.toNat)) (.int 10) (.int 7) H Q := by
  refine ⟨10, 7, rfl, rfl, ⟨by decide, by decide, by decide⟩, ?_⟩
  have e : ((10 : Int) ^ (7 : Int).toNat) = 10000000 := by decide
  show Q (.int ((10 : Int) ^ (7 : Int).toNat)) H
  rw [e]; exact q
theorem g_pow10_8 (q : Q (.int 100000000) H) : rI CPow (fun i j => .int (i ^ j.toNat)) (.int 10) (.int 8) H Q := by
  refine ⟨10, 8, rfl, rfl, ⟨by decide, by decide, by decide⟩, ?_⟩
  have e : ((10 : Int) ^ (8 : Int).toNat) = 100000000 := by decide
  show Q (.int ((10 : Int) ^ (8 : Int).toNat)) H
  rw [e]; exact q
theorem g_pow10_9 (q : Q (.int 1000000000) H) : rI CPow (fun i j => .int (i ^ j.toNat)) (.int 10) (.int 9) H Q := by
  refine ⟨10, 9, rfl, rfl, ⟨by decide, by decide, by decide⟩, ?_⟩
  have e : ((10 : Int) ^ (9 : Int).toNat) = 1000000000 := by decide
  show Q (.int ((10 : Int) ^ (9 : Int).toNat)) H
  rw [e]; exact q
theorem g_pow10_10 (q : Q (.int 10000000000) H) : rI CPow (fun i j => .int (i ^ j.toNat)) (.int 10) (.int 10) H Q := by
  refine ⟨10, 10, rfl, rfl, ⟨by decide, by decide, by decide⟩, ?_⟩
  have e : ((10 : Int) ^ (10 : Int).toNat) = 10000000000 := by decide
  show Q (.int ((10 : Int) ^ (10 : Int).toNat)) H
  rw [e]; exact q
theorem g_pow10_11 (q : Q (.int 100000000000) H) : rI CPow (fun i j => .int (i ^ j.toNat)) (.int 10) (.int 11) H Q := by
  refine ⟨10, 11, rfl, rfl, ⟨by decide, by decide, by decide⟩, ?_⟩
  have e : ((10 : Int) ^ (11 : Int).toNat) = 100000000000 := by decide
  show Q (.int ((10 : Int) ^ (11 : Int).toNat)) H
  rw [e]; exact q
theorem g_pow10_12 (q : Q (.int 1000000000000) H) : rI CPow (fun i j => .int (i ^ j.toNat)) (.int 10) (.int 12) H Q := by
  refine ⟨10, 12, rfl, rfl, ⟨by decide, by decide, by decide⟩, ?_⟩
  have e : ((10 : Int) ^ (12 : Int).toNat) = 1000000000000 := by decide
  show Q (.int ((10 : Int) ^ (12 : Int).toNat)) H
  rw [e]; exact q
theorem g_pow10_13 (q : Q (.int 10000000000000) H) : rI CPow (fun i j => .int (i ^ j.toNat)) (.int 10) (.int 13) H Q := by
  refine ⟨10, 13, rfl, rfl, ⟨by decide, by decide, by decide⟩, ?_⟩
  have e : ((10 : Int) ^ (13 : Int).toNat) = 10000000000000 := by decide
  show Q (.int ((10 : Int) ^ (13 : Int).toNat)) H
  rw [e]; exact q
theorem g_pow10_14 (q : Q (.int 100000000000000) H) : rI CPow (fun i j => .int (i ^ j.toNat)) (.int 10) (.int 14) H Q := by
  refine ⟨10, 14, rfl, rfl, ⟨by decide, by decide, by decide⟩, ?_⟩
  have e : ((10 : Int) ^ (14 : Int).toNat) = 100000000000000 := by decide
  show Q (.int ((10 : Int) ^ (14 : Int).toNat)) H
  rw [e]; exact q
theorem g_pow10_15 (q : Q (.int 1000000000000000) H) : rI CPow (fun i j => .int (i ^ j.toNat)) (.int 10) (.int 15) H Q := by
  refine ⟨10, 15, rfl, rfl, ⟨by decide, by decide, by decide⟩, ?_⟩
  have e : ((10 : Int) ^ (15 : Int).toNat) = 1000000000000000 := by decide
  show Q (.int ((10 : Int) ^ (15 : Int).toNat)) H
  rw [e]; exact q
theorem g_pow10_16 (q : Q (.int 10000000000000000) H) : rI CPow (fun i j => .int (i ^ j.toNat)) (.int 10) (.int 16) H Q := by
  refine ⟨10, 16, rfl, rfl, ⟨by decide, by decide, by decide⟩, ?_⟩
  have e : ((10 : Int) ^ (16 : Int).toNat) = 10000000000000000 := by decide
  show Q (.int ((10 : Int) ^ (16 : Int).toNat)) H
  rw [e]; exact q
theorem g_pow10_17 (q : Q (.int 100000000000000000) H) : rI CPow (fun i j => .int (i ^ j.toNat)) (.int 10) (.int 17) H Q := by
  refine ⟨10, 17, rfl, rfl, ⟨by decide, by decide, by decide⟩, ?_⟩
  have e : ((10 : Int) ^ (17 : Int).toNat) = 100000000000000000 := by decide
  show Q (.int ((10 : Int) ^ (17 : Int).toNat)) H
  rw [e]; exact q
theorem g_pow10_18 (q : Q (.int 1000000000000000000) H) : rI CPow (fun i j => .int (i ^ j.toNat)) (.int 10) (.int 18) H Q := by
  refine ⟨10, 18, rfl, rfl, ⟨by decide, by decide, by decide⟩, ?_⟩
  have e : ((10 : Int) ^ (18 : Int).toNat) = 1000000000000000000 := by decide
  show Q (.int ((10 : Int) ^ (18 : Int).toNat)) H
  rw [e]; exact q
theorem g_pow10_19 (q : Q (.int 10000000000000000000) H) : rI CPow (fun i j => .int (i ^ j.toNat)) (.int 10) (.int 19) H Q := by
  refine ⟨10, 19, rfl, rfl, ⟨by decide, by decide, by decide⟩, ?_⟩
  have e : ((10 : Int) ^ (19 : Int).toNat) = 10000000000000000000 := by decide
  show Q (.int ((10 : Int) ^ (19 : Int).toNat)) H
  rw [e]; exact q
theorem g_pow10_20 (q : Q (.int 100000000000000000000) H) : rI CPow (fun i j => .int (i ^ j.toNat)) (.int 10) (.int 20) H Q := by
  refine ⟨10, 20, rfl, rfl, ⟨by decide, by decide, by decide⟩, ?_⟩
  have e : ((10 : Int) ^ (20 : Int).toNat) = 100000000000000000000 := by decide
  show Q (.int ((10 : Int) ^ (20 : Int).toNat)) H
  rw [e]; exact q
theorem g_pow10_21 (q : Q (.int 1000000000000000000000) H) : rI CPow (fun i j => .int (i ^ j.toNat)) (.int 10) (.int 21) H Q := by
  refine ⟨10, 21, rfl, rfl, ⟨by decide, by decide, by decide⟩, ?_⟩
  have e : ((10 : Int) ^ (21 : Int).toNat) = 1000000000000000000000 := by decide
  show Q (.int ((10 : Int) ^ (21 : Int).toNat)) H
  rw [e]; exact q
theorem g_pow10_22 (q : Q (.int 10000000000000000000000) H) : rI CPow (fun i j => .int (i ^ j.toNat)) (.int 10) (.int 22) H Q := by
  refine ⟨10, 22, rfl, rfl, ⟨by decide, by decide, by decide⟩, ?_⟩
  have e : ((10 : Int) ^ (22 : Int).toNat) = 10000000000000000000000 := by decide
  show Q (.int ((10 : Int) ^ (22 : Int).toNat)) H
  rw [e]; exact q
theorem g_pow10_23 (q : Q (.int 100000000000000000000000) H) : rI CPow (fun i j => .int (i ^ j.toNat)) (.int 10) (.int 23) H Q := by
  refine ⟨10, 23, rfl, rfl, ⟨by decide, by decide, by decide⟩, ?_⟩
  have e : ((10 : Int) ^ (23 : Int).toNat) = 100000000000000000000000 := by decide
  show Q (.int ((10 : Int) ^ (23 : Int).toNat)) H
  rw [e]; exact q
theorem g_pow10_24 (q : Q (.int 1000000000000000000000000) H) : rI CPow (fun i j => .int (i ^ j.toNat)) (.int 10) (.int 24) H Q := by
  refine ⟨10, 24, rfl, rfl, ⟨by decide, by decide, by decide⟩, ?_⟩
  have e : ((10 : Int) ^ (24 : Int).toNat) = 1000000000000000000000000 := by decide
  show Q (.int ((10 : Int) ^ (24 : Int).toNat)) H
  rw [e]; exact q
theorem g_pow10_25 (q : Q (.int 10000000000000000000000000) H) : rI CPow (fun i j => .int (i ^ j.toNat)) (.int 10) (.int 25) H Q := by
  refine ⟨10, 25, rfl, rfl, ⟨by decide, by decide, by decide⟩, ?_⟩
  have e : ((10 : Int) ^ (25 : Int).toNat) = 10000000000000000000000000 := by decide
  show Q (.int ((10 : Int) ^ (25 : Int).toNat)) H
  rw [e]; exact q
theorem g_pow10_26 (q : Q (.int 100000000000000000000000000) H) : rI CPow (fun i j => .int (i ^ j.toNat)) (.int 10) (.int 26) H Q := by
  refine ⟨10, 26, rfl, rfl, ⟨by decide, by decide, by decide⟩, ?_⟩
  have e : ((10 : Int) ^ (26 : Int).toNat) = 100000000000000000000000000 := by decide
  show Q (.int ((10 : Int) ^ (26 : Int).toNat)) H
  rw [e]; exact q
theorem g_pow10_27 (q : Q (.int 1000000000000000000000000000) H) : rI CPow (fun i j => .int (i ^ j.toNat)) (.int 10) (.int 27) H Q := by
  refine ⟨10, 27, rfl, rfl, ⟨by decide, by decide, by decide⟩, ?_⟩
  have e : ((10 : Int) ^ (27 : Int).toNat) = 1000000000000000000000000000 := by decide
  show Q (.int ((10 : Int) ^ (27 : Int).toNat)) H
  rw [e]; exact q
theorem g_pow10_28 (q : Q (.int 10000000000000000000000000000) H) : rI CPow (fun i j => .int (i ^ j.toNat)) (.int 10) (.int 28) H Q := by
  refine ⟨10, 28, rfl, rfl, ⟨by decide, by decide, by decide⟩, ?_⟩
  have e : ((10 : Int) ^ (28 : Int).toNat) = 10000000000000000000000000000 := by decide
  show Q (.int ((10 : Int) ^ (28 : Int).toNat)) H
  rw [e]; exact q
theorem g_pow10_29 (q : Q (.int 100000000000000000000000000000) H) : rI CPow (fun i j => .int (i ^ j.toNat)) (.int 10) (.int 29) H Q := by
  refine ⟨10, 29, rfl, rfl, ⟨by decide, by decide, by decide⟩, ?_⟩
  have e : ((10 : Int) ^ (29 : Int).toNat) = 100000000000000000000000000000 := by decide
  show Q (.int ((10 : Int) ^ (29 : Int).toNat)) H
  rw [e]; exact q
theorem g_pow10_30 (q : Q (.int 1000000000000000000000000000000) H) : rI CPow (fun i j => .int (i ^ j.toNat)) (.int 10) (.int 30) H Q := by
  refine ⟨10, 30, rfl, rfl, ⟨by decide, by decide, by decide⟩, ?_⟩
  have e : ((10 : Int) ^ (30 : Int).toNat) = 1000000000000000000000000000000 := by decide
  show Q (.int ((10 : Int) ^ (30 : Int).toNat)) H
  rw [e]; exact q
theorem g_int (q : Q (.int i) H) : rInt1 [.int i] H Q := .inl ⟨i, rfl, q⟩
theorem g_intb {k : Bool} (q : Q (.int (if k then 1 else 0)) H) : rInt1 [.bl k] H Q := .inr ⟨k, rfl, q⟩
theorem g_abs (q : Q (.int (if i < 0 then -i else i)) H) : rAbs1 [.int i] H Q := ⟨i, rfl, q⟩
theorem g_max (q : Q (.int (if j > i then j else i)) H) : rMaxI [.int i, .int j] H Q := ⟨i, j, rfl, q⟩
theorem g_min (q : Q (.int (if j < i then j else i)) H) : rMinI [.int i, .int j] H Q := ⟨i, j, rfl, q⟩
theorem g_lenL (h : SqL K H p xs) (q : Q (.int xs.length) H) : rLenQ K [.ref p] H Q := ⟨p, xs, rfl, .inl h, q⟩
theorem g_lenT (h : SqT K H p xs) (q : Q (.int xs.length) H) : rLenQ K [.ref p] H Q := ⟨p, xs, rfl, .inr h, q⟩
theorem g_lenl (h : H p = some (.lst xs)) (q : Q (.int xs.length) H) : rLenQ K [.ref p] H Q := ⟨p, xs, rfl, .inl (SqL.of h), q⟩
theorem g_lent (h : H p = some (.tup xs)) (q : Q (.int xs.length) H) : rLenQ K [.ref p] H Q := ⟨p, xs, rfl, .inr (.inl (.inl h)), q⟩
end
theorem g_yes {A B : Prop} {k : Bool} (h : k = true) (a : A) : if k = true then A else B := by rw [if_pos h]; exact a
theorem g_no {A B : Prop} {k : Bool} (h : k = false) (b : B) : if k = true then A else B := by rw [h]; exact iteF b
theorem g_two {A B : Prop} {k : Bool} (a : k = true → A) (b : k = false → B) : if k = true then A else B := by
  cases k with
  | true => exact iteT (a rfl)
  | false => exact iteF (b rfl)

/-! a def by its promise, its parameters all given -/
structure Dn (P : Program) (w : World) (K : PySem.W.Frag) (mg : Str → Option Value) (base : Heap) (k : Nat) (a : Addr) (ps : List Str) (sp : Sp) : Prop where
  ex : ∃ fd, FnOk P w K mg base (L2.CX P w) k a fd ps sp ∧ Binds K fd ps []
  kp : PySem.W.keepIn K (.ref a) = true
section
variable {X : Cx} {k : Nat} {f C : Addr} {ps : List Str} {sp : Sp} {E : XK} {x m : Str} {p pos apos : Pos} {e o : Expr} {es : List Expr} {ta : TE} {t : TA}
theorem pe_dn (D : Dn X.prog X.w X.K X.mg X.base k f ps sp) (hr : Room k X.A) (hg : Gl X x) (hm : X.mg x = some (.ref f)) (hx : Passes (L2.CX X.prog X.w) X E) (ha : PA X (e :: es) t) (hdb : (x == ("__debug__" : Str)) = false := by decide)
    (he : starEach (e :: es) X.env = (false, eval e X.env) :: starEach es X.env := by rfl) (hpl : (backTo pos (starEach es X.env)).any (·.1) = false := by rfl) : PE X (.Call (.Name x p) (e :: es) [] pos) (tCall sp [] E t) := by
  obtain ⟨fd, F, b⟩ := D.ex
  exact pe_call F hr hg hm D.kp b .nil hx ha hdb he hpl
/-- a class made by its __init__ -/
structure Mn (P : Program) (w : World) (K : PySem.W.Frag) (mg : Str → Option Value) (base : Heap) (k : Nat) (C : Addr) (ps : List Str) (sp : Sp) : Prop where
  ex : ∃ f fd, FnOk P w K mg base (L2.CX P w) k f fd ps sp ∧ Binds K fd ps [] ∧ Mk K C f
theorem pe_mn (D : Mn X.prog X.w X.K X.mg X.base k C ps sp) (hr : Room (k + 1) X.A) (hg : Gl X x) (hm : X.mg x = some (.ref C)) (hx : Passes (L2.CX X.prog X.w) X E) (ha : PA X (e :: es) t) (hdb : (x == ("__debug__" : Str)) = false := by decide)
    (he : starEach (e :: es) X.env = (false, eval e X.env) :: starEach es X.env := by rfl) (hpl : (backTo pos (starEach es X.env)).any (·.1) = false := by rfl) : PE X (.Call (.Name x p) (e :: es) [] pos) (tMake C sp [] E t) := by
  obtain ⟨f, fd, F, b, M⟩ := D.ex
  exact pe_make M F hr hg hm b .nil hx ha hdb he hpl
end
end AF
/-! operators, properties and methods of own classes -/
namespace AF
open PySem PySem.Spec PyProof.Rows L2
open PySem.W (Looks InstAt findIn isFn subIn selfFirst notFirst looks_findIn looks_subIn)

/-- of what type a value is -/
inductive Kd (H : Hp) : V → Value → Prop where
  | non : Kd H .non (.type "NoneType")
  | bl (b : Bool) : Kd H (.bl b) (.type "bool")
  | int (i : Int) : Kd H (.int i) (.type "int")
  | str (z : Str) : Kd H (.str z) (.type "str")
  | flt (b : UInt64) : Kd H (.flt b) (.type "float")
  | ins {a C dx : Addr} {fs : List (Str × V)} (e : H a = some (.ins C dx fs)) : Kd H (.ref a) (.ref C)
  | lst {a : Addr} {xs : List V} (e : H a = some (.lst xs)) : Kd H (.ref a) (.type "list")
  | tup {a : Addr} {xs : List V} (e : H a = some (.tup xs)) : Kd H (.ref a) (.type "tuple")
  | dK {a : Addr} {kvs : List (Key × V)} (e : H a = some (.dK kvs)) : Kd H (.ref a) (.type "dict")

section
variable {X : Cx} {pins : List (Addr × Obj)} {σ : L2.St} {H : Hp} {s : Shared} {M : Model}
theorem Kd.looks {y : V} {u t : Value} (I : Inv X pins σ H s) (ry : RelV y u) (k : Kd H y t) : Looks M s.heap (typeOf u) t := by
  cases k with
  | non => cases ry; exact .now
  | bl b => cases ry; exact .now
  | int i => obtain ⟨_, rfl⟩ := ry; exact .now
  | str z => obtain ⟨_, rfl⟩ := ry; exact .now
  | flt b => obtain ⟨_, rfl⟩ := ry; exact .now
  | ins e =>
    cases ry
    obtain ⟨mA, J, _⟩ := ins_get I.hok e
    obtain ⟨od, J, _⟩ := J.look
    exact J.type
  | @lst a xs e =>
    cases ry
    obtain ⟨_, _, n, _, h1⟩ := (show ObjOk X.prog X.w H s.heap a (.lst xs) from I.hok a _ e)
    exact (Looks.ld (part := none) h1).andThen .now
  | @tup a xs e =>
    cases ry
    obtain ⟨_, _, _, o, h1, h2, _⟩ := (show ObjOk X.prog X.w H s.heap a (.tup xs) from I.hok a _ e)
    have := (Looks.ld (M := M) (part := none) h1).andThen (f := fun o => pure o.cls) .now
    rw [h2] at this
    exact this
  | @dK a kvs e =>
    cases ry
    obtain ⟨_, _, vs, _, o, es, ep, h1, h2, _⟩ := (show ObjOk X.prog X.w H s.heap a (.dK kvs) from I.hok a _ e)
    have := (Looks.ld (M := M) (part := none) h1).andThen (f := fun o => pure o.cls) .now
    rw [h2.1] at this
    exact this
end

/-! binary operators of an own class, on the left -/
structure Bin (K : PySem.W.Frag) (op : Operator) (C f : Addr) : Prop where
  hc : selfFirst K C = true
  hs : findIn K (.ref C) (PySem.dunder op.info.2) = some (some (.ref f))
  hf : isFn K (.ref f) = true
  hr : ∃ rc, findIn K (.ref C) (dunderR op.info.2) = some rc ∧ (rc = none ∨ ∃ g : Addr, rc = some (.ref g))
/-- a built-in type beside it -/
structure BinT (K : PySem.W.Frag) (op : Operator) (C : Addr) (T : String) : Prop where
  h1 : ∃ fo, findIn K (.type T) (PySem.dunder op.info.2) = some fo
  h2 : ∃ ro, findIn K (.type T) (dunderR op.info.2) = some ro
  hs : subIn K (.type T) (.ref C) = some false
def Beside (K : PySem.W.Frag) (op : Operator) (C : Addr) (t : Value) : Prop := t = .ref C ∨ ∃ T, t = .type T ∧ BinT K op C T
section
variable {prog : Program} {w : World} {A : Around} {E : Value → Shared → Prop} {s : Shared} {K : PySem.W.Frag} {x C f : Addr} {ox : Obj} {od : Option Obj}
theorem bin_left {op : Operator} {b t : Value} {Q : Value → Shared → Prop} (X : K.In s.heap) (I : InstAt s.heap x ox C od) (hb : Looks (model prog w) s.heap (typeOf b) t) (B : Bin K op C f) (hT : Beside K op C t)
    (h : wpAny (model prog w) A (call (.ref f) [.ref x, b]) (PySem.W.CmpBack Q) E s) : wpAny (model prog w) A (binaryOp op (.ref x) b) Q E s := by
  obtain ⟨cd, rest, hcd, hm⟩ := PySem.W.ksp_first B.hc
  obtain ⟨rc, hrc, hrp⟩ := B.hr
  have hs := B.hs
  rcases hi : op.info with ⟨sym, nm⟩
  rw [hi] at hs hrc
  dsimp only at hs hrc
  have one := PySem.W.ksp_try X I hs B.hf h
  rcases hT with e | ⟨T, e, BT⟩
  · subst e
    obtain ⟨hh, g, d, tt, os⟩ := s
    have la : Looks (model prog w) hh (typeOf (.ref x)) (.ref C) := I.type
    have lf : Looks (model prog w) hh (fillsNumberSlot (.ref C) nm) true := PySem.W.fills_K X hcd hm hs
    simp only [binaryOp, hi]
    refine wpAny_holding (wpAny_bind ?_)
    unfold binaryOp1
    refine wpAny_bind (la.at (wpAny_bind (hb.at (wpAny_bind (lf.at ?_)))))
    simp only [beq_self_eq_true, if_true]
    ksp_lk
    refine wpAny_mono one (fun r s' hr' => ?_) fun _ _ e => e
    obtain ⟨v, rfl, hq⟩ := hr'
    ksp_lk
    exact hq
  · subst e
    obtain ⟨fo, h1⟩ := BT.h1
    obtain ⟨ro, h2⟩ := BT.h2
    have hsub := BT.hs
    rw [hi] at h1 h2
    dsimp only at h1 h2
    obtain ⟨hh, g, d, tt, os⟩ := s
    have la : Looks (model prog w) hh (typeOf (.ref x)) (.ref C) := I.type
    have lf : Looks (model prog w) hh (fillsNumberSlot (.ref C) nm) true := PySem.W.fills_K X hcd hm hs
    have lg : Looks (model prog w) hh (fillsNumberSlot (.type T) nm) ((fo.isSome && !isSeqSlot fo) || (ro.isSome && !isSeqSlot ro)) := PySem.W.ksp_fillsT X h1 h2
    have lsub : Looks (model prog w) hh (isSubtype (.type T) (.ref C)) false := looks_subIn X hsub
    have lpy : Looks (model prog w) hh (numberSlotInPython (.ref C) nm) true := PySem.W.ksp_inPy X hs hrc hrp
    have lpt : Looks (model prog w) hh (numberSlotInPython (.type T) nm) false := Looks.of_pure rfl
    have ltk : Looks (model prog w) hh (typeLookup (.type T) (dunderR nm)) ro := looks_findIn X h2
    generalize ((fo.isSome && !isSeqSlot fo) || (ro.isSome && !isSeqSlot ro)) = right at lg
    have hne : (Value.ref C == Value.type T) = false := Bool.eq_false_iff.mpr fun q => by cases beq_iff_eq.mp q
    simp only [binaryOp, hi]
    refine wpAny_holding (wpAny_bind ?_)
    unfold binaryOp1
    refine wpAny_bind (la.at (wpAny_bind (hb.at (wpAny_bind (lf.at ?_)))))
    simp only [hne, Bool.false_eq_true, if_false]
    cases right with
    | false =>
      ksp_lk
      refine wpAny_mono one (fun r s' hr' => ?_) fun _ _ e => e
      obtain ⟨v, rfl, hq⟩ := hr'
      ksp_lk
      exact hq
    | true =>
      ksp_lk
      refine wpAny_mono one (fun r s' hr' => ?_) fun _ _ e => e
      obtain ⟨v, rfl, hq⟩ := hr'
      ksp_lk
      exact hq
end

/-! the readings -/
section
variable {X : Cx} {pins : List (Addr × Obj)} {σ : L2.St} {H : Hp} {s : Shared} {k : Nat} {f C : Addr} {ps : List Str} {sp : Sp} {E : XK} {Q : VK}
/-- behind a call of an own operator's def -/
theorem cmpBack_of {u : Value} {s' : Shared} (h : EP X pins σ Q u s') : PySem.W.CmpBack (EP X pins σ Q) u s' := by
  obtain ⟨v, H', I, r, q⟩ := id h
  cases v with
  | non => cases r; exact h
  | bl b => cases r; exact h
  | int i => obtain ⟨_, rfl⟩ := r; exact h
  | str z => obtain ⟨_, rfl⟩ := r; exact h
  | byt b => obtain ⟨_, rfl⟩ := r; exact h
  | flt b => obtain ⟨_, rfl⟩ := r; exact h
  | ref a => cases r; exact h
  | ty n => cases r; exact h
def rOwn (K : PySem.W.Frag) (op : Operator) (C : Addr) (sp : Sp) (E : XK) : R2 := fun x y H Q => ∃ a dx fs t, x = .ref a ∧ H a = some (.ins C dx fs) ∧ Kd H y t ∧ Beside K op C t ∧ sp [x, y] H Q E
theorem op_own {op : Operator} (D : Dn X.prog X.w X.K X.mg X.base k f ps sp) (B : Bin X.K op C f) (hr : Room k X.A) (hx : Passes (L2.CX X.prog X.w) X E) : OpR X (binaryOp op) (rOwn X.K op C sp E) := by
  intro pins s σ H x y v u Q I rx ry h
  obtain ⟨a, dx, fs, t, rfl, ha, kd, bs, q⟩ := h
  cases rx
  obtain ⟨fd, F, b⟩ := D.ex
  obtain ⟨mA, J, _⟩ := ins_get I.hok ha
  obtain ⟨od, J, _⟩ := J.look
  refine bin_left I.kIn J (kd.looks I ry) B bs ?_
  exact thn (run_fn (us := [.ref a, u]) (vs := [.ref a, y]) F hr b .nil hx I (.cons rfl (.cons ry .nil)) q) fun v s' z => cmpBack_of z
/-- a comparison by an own def -/
structure Cmp (K : PySem.W.Frag) (op : CmpOp) (C f : Addr) : Prop where
  hs : findIn K (.ref C) (cmpInfo op).2.1 = some (some (.ref f))
  hf : isFn K (.ref f) = true
def rCmp (K : PySem.W.Frag) (C : Addr) (sp : Sp) (E : XK) : R2 := fun x y H Q => ∃ a dx fs t, x = .ref a ∧ H a = some (.ins C dx fs) ∧ Kd H y t ∧ notFirst K C t = true ∧ sp [x, y] H Q E
theorem rich_own {op : CmpOp} (D : Dn X.prog X.w X.K X.mg X.base k f ps sp) (B : Cmp X.K op C f) (hr : Room k X.A) (hx : Passes (L2.CX X.prog X.w) X E) : OpR X (richCompare op) (rCmp X.K C sp E) := by
  intro pins s σ H x y v u Q I rx ry h
  obtain ⟨a, dx, fs, t, rfl, ha, kd, bs, q⟩ := h
  cases rx
  obtain ⟨fd, F, b⟩ := D.ex
  obtain ⟨mA, J, _⟩ := ins_get I.hok ha
  obtain ⟨od, J, _⟩ := J.look
  obtain ⟨m, hF⟩ := I.fr
  refine PySem.W.cmp_K (op := op) hr.units0 hF I.ok.mod.kin J (kd.looks I ry) bs B.hs B.hf ?_
  exact thn (run_fn (us := [.ref a, u]) (vs := [.ref a, y]) F hr b .nil hx I (.cons rfl (.cons ry .nil)) q) fun v s' z => cmpBack_of z
theorem cmp_lt (D : Dn X.prog X.w X.K X.mg X.base k f ps sp) (B : Cmp X.K .Lt C f) (hr : Room k X.A) (hx : Passes (L2.CX X.prog X.w) X E) : OpR X (compareOp .Lt) (rCmp X.K C sp E) := rich_own D B hr hx
theorem cmp_le (D : Dn X.prog X.w X.K X.mg X.base k f ps sp) (B : Cmp X.K .LtE C f) (hr : Room k X.A) (hx : Passes (L2.CX X.prog X.w) X E) : OpR X (compareOp .LtE) (rCmp X.K C sp E) := rich_own D B hr hx
theorem cmp_gt (D : Dn X.prog X.w X.K X.mg X.base k f ps sp) (B : Cmp X.K .Gt C f) (hr : Room k X.A) (hx : Passes (L2.CX X.prog X.w) X E) : OpR X (compareOp .Gt) (rCmp X.K C sp E) := rich_own D B hr hx
theorem cmp_ge (D : Dn X.prog X.w X.K X.mg X.base k f ps sp) (B : Cmp X.K .GtE C f) (hr : Room k X.A) (hx : Passes (L2.CX X.prog X.w) X E) : OpR X (compareOp .GtE) (rCmp X.K C sp E) := rich_own D B hr hx
theorem cmp_eq (D : Dn X.prog X.w X.K X.mg X.base k f ps sp) (B : Cmp X.K .Eq C f) (hr : Room k X.A) (hx : Passes (L2.CX X.prog X.w) X E) : OpR X (compareOp .Eq) (rCmp X.K C sp E) := rich_own D B hr hx
end

/-! properties and methods -/
section
variable {X : Cx} {k : Nat} {f C : Addr} {ps : List Str} {sp : Sp} {E : XK} {x m : Str} {p pos apos : Pos} {e o : Expr} {es : List Expr} {ta : TE} {t : TA}
structure Rn (P : Program) (w : World) (K : PySem.W.Frag) (mg : Str → Option Value) (base : Heap) (k : Nat) (C : Addr) (m : Str) (sp : Sp) : Prop where
  ex : ∃ p g fd ps, PropOf K C m p g ∧ FnOk P w K mg base (L2.CX P w) k g fd ps sp ∧ Binds K fd ps []
  cl : Cls K C
theorem pe_pr (D : Rn X.prog X.w X.K X.mg X.base k C m sp) (hr : Room (k + 1) X.A) (he : PE X e ta) (hab : attributeBase e m X.env (eval e X.env) = eval e X.env := by rfl) : PE X (.Attribute e m pos) (tProp C sp [] E0 ta) := by
  obtain ⟨p, g, fd, ps, hp, F, b⟩ := D.ex
  exact pe_prop he D.cl hp F hr b .nil passL hab
structure Hn (P : Program) (w : World) (K : PySem.W.Frag) (mg : Str → Option Value) (base : Heap) (k : Nat) (C : Addr) (m : Str) (sp : Sp) : Prop where
  ex : ∃ f fd ps, FnOk P w K mg base (L2.CX P w) k f fd ps sp ∧ Binds K fd ps [] ∧ Meth K C m f
  cl : Cls K C
theorem pe_dm {pl : Sem Bool} (D : Hn X.prog X.w X.K X.mg X.base k C m sp) (hr : Room k X.A) (hx : Passes (L2.CX X.prog X.w) X E) (he : PE X o ta) (ha : PA X (e :: es) t)
    (hst : starEach (e :: es) X.env = (false, eval e X.env) :: starEach es X.env := by rfl) (hpl : (backTo pos (starEach es X.env)).any (·.1) = false := by rfl)
    (ht : eval (.Call (.Attribute o m apos) (e :: es) [] pos) X.env = (do
      let ov ← eval o X.env
      standAt apos.atName
      let (f, first) ← holding [ov] (getMethod ov m pl)
      callWith pos f first (backTo pos (starEach (e :: es) X.env)) (backToKw pos (keywordEach [] X.env))) := by rfl) :
    PE X (.Call (.Attribute o m apos) (e :: es) [] pos) (tMeth C m sp [] E ta t) := by
  obtain ⟨f, fd, ps, F, b, M⟩ := D.ex
  exact pe_meth he D.cl M F hr b .nil hx ha hst hpl ht
theorem pe_dm0 {pl : Sem Bool} (D : Hn X.prog X.w X.K X.mg X.base k C m sp) (hr : Room k X.A) (hx : Passes (L2.CX X.prog X.w) X E) (he : PE X o ta)
    (ht : eval (.Call (.Attribute o m apos) [] [] pos) X.env = (do
      let ov ← eval o X.env
      standAt apos.atName
      let (f, first) ← holding [ov] (getMethod ov m pl)
      callWith pos f first (backTo pos (starEach [] X.env)) (backToKw pos (keywordEach [] X.env))) := by rfl) :
    PE X (.Call (.Attribute o m apos) [] [] pos) (tMeth C m sp [] E ta tNil) := by
  obtain ⟨f, fd, ps, F, b, M⟩ := D.ex
  exact pe_meth0 he D.cl M F hr b .nil hx ht
end

/-! steps -/
def kProp (C : Addr) (sp : Sp) (E : XK) (Q : VK) (x : V) (H : Hp) : Prop := ∃ a dx fs, x = .ref a ∧ H a = some (.ins C dx fs) ∧ sp [x] H Q E
def kMeth (C : Addr) (m : Str) (sp : Sp) (E : XK) (t : TA) (σ : L2.St) (Q : VK) (x : V) (H : Hp) : Prop := ∃ a dx fs, x = .ref a ∧ H a = some (.ins C dx fs) ∧ fs.lookup m = none ∧ t σ H fun vs H2 => sp (x :: vs) H2 Q E
def kMake (C : Addr) (sp : Sp) (E : XK) (Q : VK) (vs : List V) (H : Hp) : Prop := ∀ x dx, H x = none → H dx = none → dx ≠ x → sp (.ref x :: vs) (upd (upd H dx (.own x)) x (.ins C dx [])) (fun v H2 => v = .non ∧ Q (.ref x) H2) E
section
variable {σ : L2.St} {H : Hp} {Q : VK} {ta : TE} {tr : TA} {C a dx : Addr} {fs : List (Str × V)} {m : Str} {sp : Sp} {E : XK} {y : V} {K : PySem.W.Frag} {op : Operator} {t : Value}
theorem g_prop (h : ta σ H (kProp C sp E Q)) : tProp C sp [] E ta σ H Q := by
  have e : (fun (x : V) (H1 : Hp) => ∃ a dx fs, x = .ref a ∧ H1 a = some (.ins C dx fs) ∧ sp (.ref a :: []) H1 Q E) = kProp C sp E Q := by
    funext x H1
    refine propext ⟨fun ⟨a, dx, fs, e, h, q⟩ => ⟨a, dx, fs, e, h, by rw [e]; exact q⟩, fun ⟨a, dx, fs, e, h, q⟩ => ⟨a, dx, fs, e, h, by rw [← e]; exact q⟩⟩
  show ta σ H _
  rw [e]; exact h
theorem g_kprop (ho : H a = some (.ins C dx fs)) (q : sp [.ref a] H Q E) : kProp C sp E Q (.ref a) H := ⟨a, dx, fs, rfl, ho, q⟩
theorem g_meth (h : ta σ H (kMeth C m sp E tr σ Q)) : tMeth C m sp [] E ta tr σ H Q := by
  have e : (fun (x : V) (H1 : Hp) => ∃ a dx fs, x = .ref a ∧ H1 a = some (.ins C dx fs) ∧ fs.lookup m = none ∧ tr σ H1 fun vs H2 => sp (x :: (vs ++ [])) H2 Q E) = kMeth C m sp E tr σ Q := by
    funext x H1
    simp only [List.append_nil]
    rfl
  show ta σ H _
  rw [e]; exact h
theorem g_kmeth (ho : H a = some (.ins C dx fs)) (hl : fs.lookup m = none) (q : tr σ H fun vs H2 => sp (.ref a :: vs) H2 Q E) : kMeth C m sp E tr σ Q (.ref a) H := ⟨a, dx, fs, rfl, ho, hl, q⟩
theorem g_make (h : tr σ H (kMake C sp E Q)) : tMake C sp [] E tr σ H Q := by
  have e : (fun (vs : List V) (H1 : Hp) => ∀ x dx, H1 x = none → H1 dx = none → dx ≠ x → sp (.ref x :: (vs ++ [])) (upd (upd H1 dx (.own x)) x (.ins C dx [])) (fun v H2 => v = .non ∧ Q (.ref x) H2) E) = kMake C sp E Q := by
    funext vs H1
    simp only [List.append_nil]
    rfl
  show tr σ H _
  rw [e]; exact h
theorem g_own (ho : H a = some (.ins C dx fs)) (kd : Kd H y t) (b : Beside K op C t) (q : sp [.ref a, y] H Q E) : rOwn K op C sp E (.ref a) y H Q := ⟨a, dx, fs, t, rfl, ho, kd, b, q⟩
theorem g_cmp (ho : H a = some (.ins C dx fs)) (kd : Kd H y t) (b : notFirst K C t = true) (q : sp [.ref a, y] H Q E) : rCmp K C sp E (.ref a) y H Q := ⟨a, dx, fs, t, rfl, ho, kd, b, q⟩
end
end AF
/-! an own operator on the right of an int; != by an own == -/
namespace AF
open PySem PySem.Spec PyProof.Rows L2
open PySem.W (Looks InstAt findIn isFn subIn selfFirst notFirst looks_findIn looks_subIn)

def Declines (y : Addr) : PySem.Spec := fun _ R s => (∃ C dx, s.heap.get? y = some (PySem.W.instObj C dx)) ∧ R (.ok (.ret .notImplemented)) s
theorem add_declines (i : Int) (t : Tok) (y : Addr) : Meets (Builtin.«int.__add__» ⟨[.int i t, .ref y], []⟩) (Declines y) :=
  .of_wp fun prog w A R s h => by
    obtain ⟨hp, g, d, tk, os⟩ := s
    obtain ⟨⟨C, dx, hl⟩, h⟩ := h
    unfold PySem.W.instObj at hl
    wp_walk using AutoSeq1.wpAny_loadPart' hl
    exact ⟨_, rfl, h⟩
theorem sub_declines (i : Int) (t : Tok) (y : Addr) : Meets (Builtin.«int.__sub__» ⟨[.int i t, .ref y], []⟩) (Declines y) :=
  .of_wp fun prog w A R s h => by
    obtain ⟨hp, g, d, tk, os⟩ := s
    obtain ⟨⟨C, dx, hl⟩, h⟩ := h
    unfold PySem.W.instObj at hl
    wp_walk using AutoSeq1.wpAny_loadPart' hl
    exact ⟨_, rfl, h⟩
structure BinR (K : PySem.W.Frag) (op : Operator) (C f : Addr) : Prop where
  hc : selfFirst K C = true
  hs : ∃ g : Addr, findIn K (.ref C) (PySem.dunder op.info.2) = some (some (.ref g))
  hr : findIn K (.ref C) (dunderR op.info.2) = some (some (.ref f))
  hf : isFn K (.ref f) = true
  hb : subIn K (.ref C) (.type "int") = some false
section
variable {prog : Program} {w : World} {A : Around} {E : Value → Shared → Prop} {s : Shared} {K : PySem.W.Frag} {y C f : Addr} {oy : Obj} {od : Option Obj}
/-- an int's own method declines, the right one's is taken -/
theorem bin_right {op : Operator} {i : Int} {t : Tok} {id : String} {Bl : Builtin} {Q : Value → Shared → Prop} (X : K.In s.heap) (I : InstAt s.heap y oy C od) (B : BinR K op C f) (sl : Slot "int" (PySem.dunder op.info.2) id) (fi : fillsNumberSlot (.type "int") op.info.2 = pure true)
    (en : entryFor table id = some Bl) (ar : argsOk id ⟨[.int i t, .ref y], []⟩) (de : Meets (Bl ⟨[.int i t, .ref y], []⟩) (Declines y)) (hy : ∃ C dx, s.heap.get? y = some (PySem.W.instObj C dx))
    (h : wpAny (model prog w) A (call (.ref f) [.ref y, .int i t]) (PySem.W.CmpBack Q) E s) : wpAny (model prog w) A (binaryOp op (.int i t) (.ref y)) Q E s := by
  obtain ⟨cd, rest, hcd, hm⟩ := PySem.W.ksp_first B.hc
  obtain ⟨g', hs⟩ := B.hs
  have hr := B.hr
  rcases hi : op.info with ⟨sym, nm⟩
  rw [hi] at hs hr sl fi
  dsimp only at hs hr sl fi
  have one := PySem.W.ksp_try X I hr B.hf h
  have none1 : wpAny (model prog w) A (tryMethod (.int i t) (PySem.dunder nm) (.ref y)) (fun r s' => r = none ∧ s' = s) E s :=
    wpAny_tryMethod_declines (typeIs_int _ _ _) sl (call_meets sl (typeIs_int _ _ _) en ar de ⟨hy, rfl, rfl, rfl⟩)
  obtain ⟨hh, g, d, tt, os⟩ := s
  have la : Looks (model prog w) hh (typeOf (.int i t)) (.type "int") := Looks.of_pure rfl
  have lb : Looks (model prog w) hh (typeOf (.ref y)) (.ref C) := I.type
  have lf : Looks (model prog w) hh (fillsNumberSlot (.type "int") nm) true := Looks.of_pure fi
  have lg : Looks (model prog w) hh (fillsNumberSlot (.ref C) nm) true := PySem.W.fills_K X hcd hm hs
  have lsub : Looks (model prog w) hh (isSubtype (.ref C) (.type "int")) false := looks_subIn X B.hb
  have lpt : Looks (model prog w) hh (numberSlotInPython (.type "int") nm) false := Looks.of_pure rfl
  have hne : (Value.type "int" == Value.ref C) = false := Bool.eq_false_iff.mpr fun q => by cases beq_iff_eq.mp q
  simp only [binaryOp, hi]
  refine wpAny_holding (wpAny_bind ?_)
  unfold binaryOp1
  refine wpAny_bind (la.at (wpAny_bind (lb.at (wpAny_bind (lf.at ?_)))))
  simp only [hne, Bool.false_eq_true, if_false]
  ksp_lk
  refine wpAny_mono none1 (fun r s' hr' => ?_) fun _ _ e => e
  obtain ⟨rfl, rfl⟩ := hr'
  ksp_lk
  refine wpAny_mono one (fun r s' hr' => ?_) fun _ _ e => e
  obtain ⟨v, rfl, hq⟩ := hr'
  ksp_lk
  exact hq
end

/-! != by an own == -/
structure NeC (K : PySem.W.Frag) (C f : Addr) : Prop where
  hn : findIn K (.ref C) "__ne__" = some (some (.builtin "object.__ne__"))
  hs : findIn K (.ref C) "__eq__" = some (some (.ref f))
  hf : isFn K (.ref f) = true
  ho : PySem.W.mroIn K C (.type "object") = some true
theorem slot_objne : Slot "object" "__ne__" "object.__ne__" :=
  .of (owner := "object") (n := "__ne__") (by rw [typeLookup_type, builtinLookup_eq_fast]; kernel_rfl) (by decide +kernel) (by decide +kernel) (by decide +kernel) (.inl (by decide +kernel)) (by rw [isSubtype_type]; kernel_rfl)
section
variable {prog : Program} {w : World} {A : Around} {E : Value → Shared → Prop} {K : PySem.W.Frag} {x C f : Addr} {ox : Obj} {od : Option Obj}
theorem objne_body {b : Value} {hh : Heap} {g : Array GenState} {d : Drawn} {tt : Nat} {os : OsState} {Q : Fin → Shared → Prop} (hu : A.units < cLine)
    (h : wpAny (model prog w) A (callSpecialIfBound? (.ref x) "__eq__" [b]) (fun r s' => ∃ k, r = some (.bool k) ∧ Q (.done (.ret (.bool (!k)))) s') E ⟨hh, g, d, tt, os⟩) :
    wpAny (model prog w) A (Builtin.«object.__ne__» ⟨[.ref x, b], []⟩) Q E ⟨hh, g, d, tt, os⟩ := by
  unfold Builtin.«object.__ne__»
  repeat (first | with_reducible refine wpAny_cRoomFor hu ?_ | (with_reducible refine wpAny_mono h (fun r s' hr => ?_) fun _ _ e => e) | wp_step)
  obtain ⟨k, rfl, q⟩ := hr
  obtain ⟨hp, g, d, tk, os⟩ := s'
  repeat wp_step
  exact q
theorem rich_ne {b t : Value} {hh : Heap} {g : Array GenState} {d : Drawn} {tt : Nat} {os : OsState} {Q : Value → Shared → Prop} (hu : A.units + 1 < cLine) (X : K.In hh) (I : InstAt hh x ox C od) (hb : Looks (model prog w) hh (typeOf b) t)
    (hn : notFirst K C t = true) (B : NeC K C f) (h : wpAny (model prog w) A.in1 (call (.ref f) [.ref x, b]) (fun v s' => ∃ k, v = .bool k ∧ Q (.bool (!k)) s') E ⟨hh, g, d, tt, os⟩) :
    wpAny (model prog w) A (richCompare .NotEq (.ref x) b) Q E ⟨hh, g, d, tt, os⟩ := by
  have hu0 : A.units < cLine := Nat.lt_of_succ_lt hu
  have call2 : wpAny (model prog w) A (call (.builtin "object.__ne__") [.ref x, b]) (fun v s' => v ≠ .notImplemented ∧ Q v s') E ⟨hh, g, d, tt, os⟩ := by
    refine wpAny_call (codeAny_call_builtin slot_objne.plain PySem.F.cmpEntry_ne (@PySem.W.check_slot (model prog w) _ _ ⟨hh, g, d, tt, os⟩ "object.__ne__" "object" "__ne__" (.ref x) [b] [] _ PySem.F.cmpKind_ne PySem.F.cmpSplit_ne
      (I.type.andThen (PySem.W.looks_mroIn X B.ho)) (PySem.F.cmpArgs_ne _ _) ?_))
    refine objne_body (show A.in1.units < cLine from hu) (PySem.W.ifBound_K X I B.hs B.hf (wpAny_mono h (fun v s' z => ?_) fun _ _ e => e))
    obtain ⟨k, rfl, q⟩ := z
    exact ⟨k, rfl, (fun z => nomatch z), q⟩
  have one : wpAny (model prog w) A (tryCompare (.ref x) "__ne__" b) (fun r s' => ∃ v, r = some v ∧ Q v s') E ⟨hh, g, d, tt, os⟩ := by
    have lt : Looks (model prog w) hh (typeLookup (.ref C) "__ne__") (some (.builtin "object.__ne__")) := looks_findIn X B.hn
    have fin : wpAny (model prog w) A (call (.builtin "object.__ne__") ([.ref x] ++ [b]) >>= fun v => pure (some v)) (fun r s' => ∃ v, r = some v ∧ v ≠ .notImplemented ∧ Q v s') E ⟨hh, g, d, tt, os⟩ :=
      wpAny_bind (wpAny_mono call2 (fun v s' h' => wpAny_pure ⟨v, rfl, h'⟩) fun _ _ h' => h')
    have sp : wpAny (model prog w) A (callSpecialIfBound? (.ref x) "__ne__" [b]) (fun r s' => ∃ v, r = some v ∧ v ≠ .notImplemented ∧ Q v s') E ⟨hh, g, d, tt, os⟩ := by
      simp only [callSpecialIfBound?, bindSpecialIfBound?]
      refine wpAny_holding (wpAny_bind (wpAny_bind (wpAny_bind (I.type.here (lt.here ?_)))))
      simp only [slot_objne.bind]
      refine wpAny_bind (wpAny_askSetting (wpAny_ite ?_))
      split
      · exact wpAny_bind (wpAny_pure (wpAny_pure fin))
      · exact wpAny_tryCatch (wpAny_bind (wpAny_pure (wpAny_pure fin)))
    unfold tryCompare
    refine wpAny_bind (wpAny_mono sp (fun r s' z => ?_) fun _ _ e => e)
    obtain ⟨v, rfl, hv, q⟩ := z
    cases v <;> first | exact absurd rfl hv | exact wpAny_pure ⟨_, rfl, q⟩
  unfold richCompare
  simp only [oneThing_ref, cmpInfo_NotEq]
  refine wpAny_holding (wpAny_bind (wpAny_cRoomFor hu0 ?_))
  refine wpAny_bind (I.type.here (wpAny_bind (hb.here ?_)))
  split
  · rename_i q
    have e : subIn K t (.ref C) = some false := by
      rcases Bool.or_eq_true_iff.mp hn with e | e
      · rw [beq_iff_eq.mp e] at q; simp at q
      · exact beq_iff_eq.mp e
    refine wpAny_bind ((looks_subIn X e).here ?_)
    simp only [Bool.false_eq_true, if_false]
    refine wpAny_bind (wpAny_mono one (fun r s' z => ?_) fun _ _ e => e)
    obtain ⟨v, rfl, hq⟩ := z
    exact wpAny_pure hq
  · refine wpAny_bind (wpAny_pure ?_)
    simp only [Bool.false_eq_true, if_false]
    refine wpAny_bind (wpAny_mono one (fun r s' z => ?_) fun _ _ e => e)
    obtain ⟨v, rfl, hq⟩ := z
    exact wpAny_pure hq
end

section
variable {X : Cx} {pins : List (Addr × Obj)} {σ : L2.St} {H : Hp} {s : Shared} {k : Nat} {f C : Addr} {ps : List Str} {sp : Sp} {E : XK} {Q : VK}
def rRight (C : Addr) (sp : Sp) (E : XK) : R2 := fun x y H Q => ∃ i a dx fs, x = .int i ∧ y = .ref a ∧ H a = some (.ins C dx fs) ∧ sp [y, x] H Q E
theorem op_right_add (D : Dn X.prog X.w X.K X.mg X.base k f ps sp) (B : BinR X.K .Add C f) (hr : Room k X.A) (hx : Passes (L2.CX X.prog X.w) X E) : OpR X (binaryOp .Add) (rRight C sp E) := by
  intro pins s σ H x y v u Q I rx ry h
  obtain ⟨i, a, dx, fs, rfl, rfl, ha, q⟩ := h
  obtain ⟨t, rfl⟩ := rx
  cases ry
  obtain ⟨fd, F, b⟩ := D.ex
  obtain ⟨_, _, _, hy, _⟩ := (show ObjOk X.prog X.w H s.heap a (.ins C dx fs) from I.hok a _ ha)
  obtain ⟨mA, J, _⟩ := ins_get I.hok ha
  obtain ⟨od, J, _⟩ := J.look
  refine bin_right I.kIn J B PySem.F.slot_int_add PySem.F.fills_int_add PySem.F.entry_int_add (PySem.F.args_int_add_2 _ _) (add_declines _ _ _) ⟨_, _, hy⟩ ?_
  exact thn (run_fn (us := [.ref a, .int i t]) (vs := [.ref a, .int i]) F hr b .nil hx I (.cons rfl (.cons ⟨t, rfl⟩ .nil)) q) fun v s' z => cmpBack_of z
theorem op_right_sub (D : Dn X.prog X.w X.K X.mg X.base k f ps sp) (B : BinR X.K .Sub C f) (hr : Room k X.A) (hx : Passes (L2.CX X.prog X.w) X E) : OpR X (binaryOp .Sub) (rRight C sp E) := by
  intro pins s σ H x y v u Q I rx ry h
  obtain ⟨i, a, dx, fs, rfl, rfl, ha, q⟩ := h
  obtain ⟨t, rfl⟩ := rx
  cases ry
  obtain ⟨fd, F, b⟩ := D.ex
  obtain ⟨_, _, _, hy, _⟩ := (show ObjOk X.prog X.w H s.heap a (.ins C dx fs) from I.hok a _ ha)
  obtain ⟨mA, J, _⟩ := ins_get I.hok ha
  obtain ⟨od, J, _⟩ := J.look
  refine bin_right I.kIn J B PySem.F.slot_int_sub PySem.F.fills_int_sub PySem.F.entry_int_sub (PySem.F.args_int_sub_2 _ _) (sub_declines _ _ _) ⟨_, _, hy⟩ ?_
  exact thn (run_fn (us := [.ref a, .int i t]) (vs := [.ref a, .int i]) F hr b .nil hx I (.cons rfl (.cons ⟨t, rfl⟩ .nil)) q) fun v s' z => cmpBack_of z
theorem g_right {i : Int} {a dx : Addr} {fs : List (Str × V)} (ho : H a = some (.ins C dx fs)) (q : sp [.ref a, .int i] H Q E) : rRight C sp E (.int i) (.ref a) H Q := ⟨i, a, dx, fs, rfl, rfl, ho, q⟩
/-- != : the own == gives a truth, its opposite comes out -/
def rNeq (K : PySem.W.Frag) (C : Addr) (sp : Sp) (E : XK) : R2 := fun x y H Q => ∃ a dx fs t, x = .ref a ∧ H a = some (.ins C dx fs) ∧ Kd H y t ∧ notFirst K C t = true ∧ sp [x, y] H (fun v H' => ∃ b, v = .bl b ∧ Q (.bl (!b)) H') E
theorem cmp_neq (D : Dn X.prog X.w X.K X.mg X.base k f ps sp) (B : NeC X.K C f) (hr : Room (k + 1) X.A) (hx : Passes (L2.CX X.prog X.w) X E) : OpR X (compareOp .NotEq) (rNeq X.K C sp E) := by
  intro pins s σ H x y v u Q I rx ry h
  obtain ⟨a, dx, fs, t, rfl, ha, kd, bs, q⟩ := h
  cases rx
  obtain ⟨fd, F, b⟩ := D.ex
  obtain ⟨mA, J, _⟩ := ins_get I.hok ha
  obtain ⟨od, J, _⟩ := J.look
  have lb := kd.looks (M := model X.prog X.w) I ry
  show wpAny (model X.prog X.w) X.A (richCompare .NotEq (.ref a) u) (EP X pins σ Q) X.xe s
  have hl := F.len _ _ _ _ q
  have rv : Vals [V.ref a, y] [Value.ref a, u] := .cons rfl (.cons ry .nil)
  have run : wpAny (model X.prog X.w) X.A.in1 (call (.ref f) [.ref a, u]) (fun v s' => ∃ k, v = .bool k ∧ EP X pins σ Q (.bool (!k)) s') X.xe s := by
    refine wpAny_call (codeAny_mono (F.run X.A.in1 X.stack s H ⟨[.ref a, u], []⟩ [.ref a, u] [.ref a, y] _ E hr.in1 I.env0.in1 (by
      have := b s [.ref a, u] I.kIn (by simpa using hl)
      simpa using this) rv q) fun r s' hq => ?_)
    cases r with
    | error e => exact hx pins σ H s e s' I hq
    | ok fl =>
      cases fl with
      | ret w =>
        obtain ⟨z, H', I', rz, b', ez, q'⟩ := I.after hq
        subst ez
        cases rz
        exact ⟨b', rfl, .bl (!b'), H', I', rfl, q'⟩
      | next => exact False.elim hq
      | brk => exact False.elim hq
      | cont => exact False.elim hq
  obtain ⟨hh, g, d, tt, os⟩ := s
  exact rich_ne (hu_of hr) I.kIn J lb bs B run
theorem g_neq {a dx : Addr} {fs : List (Str × V)} {y : V} {t : Value} {K : PySem.W.Frag} (ho : H a = some (.ins C dx fs)) (kd : Kd H y t) (b : notFirst K C t = true) (q : sp [.ref a, y] H (kNot Q) E) : rNeq K C sp E (.ref a) y H Q :=
  ⟨a, dx, fs, t, rfl, ho, kd, b, q⟩
end
end AF
/-! further steps -/
namespace AF
open PySem PySem.Spec PyProof.Rows L2
def kChain (r' : R2) (tc : TE) (σ : L2.St) (y : V) (Q : VK) (z : V) (H : Hp) : Prop := ∃ k, z = .bl k ∧ (if k = true then tc σ H fun w' H4 => r' y w' H4 Q else Q (.bl false) H)
section
variable {σ : L2.St} {H : Hp} {Q : VK} {ta tb tc : TE} {r r' : R2} {x y c : V} {K : PySem.W.Frag} {t u : Value} {b k : Bool}
theorem g_chain (h : ta σ H fun x H1 => tb σ H1 fun y H2 => r x y H2 (kChain r' tc σ y Q)) : tChain r r' ta tb tc σ H Q := h
theorem g_kchain (q : if k = true then tc σ H fun w' H4 => r' y w' H4 Q else Q (.bl false) H) : kChain r' tc σ y Q (.bl k) H := ⟨k, rfl, q⟩
theorem g_isi (cv : ClsV c u) (ty : TyX K H x t) (e : PySem.W.kitOne K t u = some b) (q : Q (.bl b) H) : rIsi K [x, c] H Q := ⟨x, c, t, u, b, rfl, cv, ty, e, q⟩
theorem dp_int {i j : Int} (h : i = j) : Dp K H (.int i) (.int j) := by rw [h]; exact .int j
theorem dp_bl {i j : Bool} (h : i = j) : Dp K H (.bl i) (.bool j) := by rw [h]; exact .bl j
theorem dp_lst {a : Addr} {xs : List V} {ds : List PyData} (h : H a = some (.lst xs)) (q : DpAll K H xs ds) : Dp K H (.ref a) (.list ds) := .lst (SqL.of h) q
theorem dp_tup {a : Addr} {xs : List V} {ds : List PyData} (h : H a = some (.tup xs)) (q : DpAll K H xs ds) : Dp K H (.ref a) (.tuple ds) := .tup (.inl (.inl h)) q
theorem eqv_self {d : PyData} (s : SeqAt.shaped d = true) : PyData.eqv d d = true := SeqAt.eqv_refl_plain d (PySem.PyData.plain_of_canLay0 d (SeqAt.canLay_of_shaped s))
theorem g_neD {d : PyData} (hx : Dp K H x d) (hy : Dp K H y d) (s : SeqAt.shaped d = true) (q : Q (.bl false) H) : rNeD K x y H Q := ⟨d, d, hx, hy, s, s, by rw [eqv_self s]; exact q⟩
theorem g_eqD {d : PyData} (hx : Dp K H x d) (hy : Dp K H y d) (s : SeqAt.shaped d = true) (q : Q (.bl true) H) : rEqD K x y H Q := ⟨d, d, hx, hy, s, s, by rw [eqv_self s]; exact q⟩
end
/-- a new instance comes out, all else stays -/
def New (C : Addr) (fs : List (Str × V)) (H : Hp) (Q : VK) : Prop := ∀ x dx H', H x = none → Ch [] H H' → H' x = some (.ins C dx fs) → Q (.ref x) H'
theorem g_new {H0 : Hp} {M : Addr → Prop} {H : Hp} {l : List Ent} {C : Addr} {fs : List (Str × V)} {Q : VK} (S : Sh H0 M H l) (q : ∀ x dx H', Sh H0 M H' ((x, .ins C dx fs, true) :: l) → Q (.ref x) H') : New C fs H Q :=
  fun x dx H' hn c h => q x dx H' (S.add c hn h)
/-- an object is being made by its __init__ -/
theorem g_kmake {H0 : Hp} {M : Addr → Prop} {H : Hp} {l : List Ent} {C : Addr} {sp : Sp} {E : XK} {Q : VK} {vs : List V} {fs : List (Str × V)} (S : Sh H0 M H l)
    (h : ∀ (x dx : Addr) (H1 : Hp) (Q' : VK), H1 x = some (.ins C dx []) → (∀ H2, Ch [x] H1 H2 → H2 x = some (.ins C dx fs) → Q' .non H2) → sp (.ref x :: vs) H1 Q' E)
    (q : ∀ x dx H', Sh H0 M H' ((x, .ins C dx fs, true) :: l) → Q (.ref x) H') : kMake C sp E Q vs H := by
  intro x dx hx hd ne
  have S1 := (S.new (o := .own x) hd).new (p := x) (o := .ins C dx []) (by rw [upd_ne (Ne.symm ne)]; exact hx)
  refine h x dx _ _ (S1.has_ .here) fun H2 c h2 => ⟨rfl, q x dx H2 ?_⟩
  have S2 := S1.ch1 .here c h2
  refine ⟨S2.fr, fun e he => ?_, ?_, fun e he hm => ?_⟩
  · rcases List.mem_cons.mp he with z | z
    · exact S2.has e (z ▸ List.mem_cons_self)
    · exact S2.has e (List.mem_cons_of_mem _ (List.mem_cons_of_mem _ z))
  · have ap := S2.ap
    simp only [List.map_cons, List.pairwise_cons] at ap ⊢
    exact ⟨fun t ht => ap.1 t (List.mem_cons_of_mem _ ht), ap.2.2⟩
  · rcases List.mem_cons.mp he with z | z
    · exact S2.mu e (z ▸ List.mem_cons_self) hm
    · exact S2.mu e (List.mem_cons_of_mem _ (List.mem_cons_of_mem _ z)) hm
end AF
/-! loops over a range, items at an open place -/
namespace AF
open PySem PySem.Spec PyProof.Rows L2
def kR1 (P : Int → Hp → Prop) (vs : List V) (H : Hp) : Prop := ∃ j : Int, vs = [.int j] ∧ -(2 ^ 62) ≤ j ∧ j < 2 ^ 62 ∧ P j H
/-- a loop over a range of n turns -/
def Loop (n : Nat) (g : TG) (tb : TS) (D : Ends) (σ : L2.St) (H : Hp) : Prop := ∃ W : Nat → Nat → L2.St → Hp → Prop, (∃ m, W 0 m σ H) ∧ ∀ i m σ H, W i m σ H →
  ((Itr 0 n).stop i H ∧ D.nx σ H) ∨ ((Itr 0 n).go i H ∧ ∃ N : L2.St → Hp → Prop, (∀ σ' H', N σ' H' → ∃ m', m' < m ∧ W (i + 1) m' σ' H') ∧ ∀ x H', (Itr 0 n).yld i H x H' → g x σ H' fun σ2 H2 => tb { D with nx := N, ct := N, bk := D.nx } σ2 H2)
section
variable {σ σ' : L2.St} {H : Hp} {Q : VK} {i j : Int} {x y v : V} {K : PySem.W.Frag} {p : Addr} {xs : List V} {ta : TA} {tb : TS} {g : TG} {D : Ends}
theorem g_for1 (h : ta σ H (kR1 fun j H1 => Loop j.toNat g tb D σ H1)) : tFor (iRng1 ta) g tb D σ H := h
theorem g_kR1 {P : Int → Hp → Prop} (h1 : -(2 ^ 62) ≤ j) (h2 : j < 2 ^ 62) (q : P j H) : kR1 P [.int j] H := ⟨j, rfl, h1, h2, q⟩
theorem g_loop {n k : Nat} {nx : L2.St → Hp → Prop} {rt : VK} {bk ct : L2.St → Hp → Prop} (Pv : Nat → L2.St → Hp → Prop) (h0 : Pv 0 σ H)
    (hs : ∀ (i : Nat) σ H, i < n → Pv i σ H → tb ⟨Pv (i + 1), rt, nx, Pv (i + 1)⟩ (σ.set k (some (.int (i : Int)))) H) (hd : ∀ σ H, Pv n σ H → nx σ H) : Loop n (gName k) tb ⟨nx, rt, bk, ct⟩ σ H :=
  for_range (lo := 0) (n := n) (D := ⟨nx, rt, bk, ct⟩) Pv h0 (fun i σ H hi p => by
    have e : (0 : Int) + (i : Int) = (i : Int) := Int.zero_add _
    show tb ⟨Pv (i + 1), rt, nx, Pv (i + 1)⟩ (σ.set k (some (.int ((0 : Int) + (i : Int))))) H
    rw [e]
    exact hs i σ H hi p) hd
theorem g_absN (q : ∀ j : Int, 0 ≤ j → Q (.int j) H) : rAbs1 [.int i] H Q := ⟨i, rfl, q _ (by split <;> omega)⟩
theorem g_maxN (q : ∀ z : Int, i ≤ z → j ≤ z → (z = i ∨ z = j) → Q (.int z) H) : rMaxI [.int i, .int j] H Q := ⟨i, j, rfl, q _ (by split <;> omega) (by split <;> omega) (by split <;> simp)⟩
theorem g_minN (q : ∀ z : Int, z ≤ i → z ≤ j → (z = i ∨ z = j) → Q (.int z) H) : rMinI [.int i, .int j] H Q := ⟨i, j, rfl, q _ (by split <;> omega) (by split <;> omega) (by split <;> simp)⟩
theorem atI_some {α : Type} {xs : List α} (h0 : 0 ≤ i) (h1 : i < xs.length) : ∃ v, v ∈ xs ∧ atI xs i = some v := by
  obtain ⟨k, rfl⟩ : ∃ k : Nat, i = k := ⟨i.toNat, by omega⟩
  have hk : k < xs.length := by omega
  exact ⟨xs[k], List.getElem_mem hk, atI_nat (List.getElem?_eq_getElem hk)⟩
/-- an item of a list at an open place: what all items have -/
theorem g_ixP {P : V → Prop} (h : H p = some (.lst xs)) (h0 : 0 ≤ i) (h1 : i < xs.length) (hp : ∀ v, v ∈ xs → P v) (q : ∀ v, P v → Q v H) : rIxL K (.ref p) (.int i) H Q := by
  obtain ⟨v, hv, e⟩ := atI_some h0 h1
  exact ⟨p, xs, i, v, rfl, rfl, SqL.of h, e, q v (hp v hv)⟩
/-- .. of ints between two bounds -/
def IntIn (lo hi : Int) (v : V) : Prop := ∃ z, v = .int z ∧ lo ≤ z ∧ z ≤ hi
theorem g_ixI (lo hi : Int) (h : H p = some (.lst xs)) (h0 : 0 ≤ i) (h1 : i < xs.length) (hp : ∀ v, v ∈ xs → IntIn lo hi v) (q : ∀ z : Int, lo ≤ z → z ≤ hi → Q (.int z) H) : rIxL K (.ref p) (.int i) H Q :=
  g_ixP h h0 h1 hp fun v ⟨z, e, a, b⟩ => by rw [e]; exact q z a b
theorem intIn_nil {lo hi : Int} : ∀ v, v ∈ ([] : List V) → IntIn lo hi v := fun _ h => nomatch h
theorem intIn_cons {lo hi z : Int} {r : List V} (h1 : lo ≤ z) (h2 : z ≤ hi) (h : ∀ v, v ∈ r → IntIn lo hi v) : ∀ v, v ∈ V.int z :: r → IntIn lo hi v := fun v hv => by
  rcases List.mem_cons.mp hv with e | e
  · exact ⟨z, e, h1, h2⟩
  · exact h v e
end
/-! the law's own helpers: a source of drawn numbers -/
def Sd (n s : Int) : Prop := 0 ≤ n ∧ 0 ≤ s ∧ s < 2147483647
def spSource (K : PySem.W.Frag) : Sp := fun vs H Q _ => ∃ (a : Addr) (ns : List Int) (t : Nat), vs = [.ref a, .int (t : Int)] ∧ SqL K H a (ns.map V.int) ∧
  ∀ (q : Addr) (n s : Int) (H' : Hp), H q = none → Ch [] H H' → H' q = some (.lst [.int n, .int s]) → Sd n s → Q (.ref q) H'
def spDraw : Sp := fun vs H Q _ => ∃ (a : Addr) (n s m : Int), vs = [.ref a, .int m] ∧ H a = some (.lst [.int n, .int s]) ∧ Sd n s ∧ 1 ≤ m ∧ m ≤ 10 ^ 60 ∧
  ∀ (d n' s' : Int) (H' : Hp), Ch [a] H H' → H' a = some (.lst [.int n', .int s']) → 0 ≤ d → d < m → Sd n' s' → Q (.int d) H'
/-- a helper that draws and hands out what P says -/
def spGive (P : V → Prop) : Sp := fun vs H Q _ => ∃ (a : Addr) (n s : Int), vs = [.ref a] ∧ H a = some (.lst [.int n, .int s]) ∧ Sd n s ∧
  ∀ (v : V) (n' s' : Int) (H' : Hp), Ch [a] H H' → H' a = some (.lst [.int n', .int s']) → P v → Sd n' s' → Q v H'
section
variable {H0 : Hp} {M : Addr → Prop} {H : Hp} {l : List Ent} {l' : Int → Int → List Ent} {a : Addr} {n s m : Int} {Q : VK} {E : XK} {K : PySem.W.Frag}
theorem use_draw (S : Sh H0 M H l) (r : ∀ n' s', Rep l a (.lst [.int n, .int s]) (.lst [.int n', .int s']) (l' n' s')) (hs : Sd n s) (h1 : 1 ≤ m) (h2 : m ≤ 10 ^ 60)
    (q : ∀ d n' s' H', 0 ≤ d → d < m → Sd n' s' → Sh H0 M H' (l' n' s') → Q (.int d) H') : spDraw [.ref a, .int m] H Q E :=
  ⟨a, n, s, m, rfl, S.has _ (r n s).mem, hs, h1, h2, fun d n' s' H' c h p1 p2 p3 => q d n' s' H' p1 p2 p3 (S.ch1 (r n' s') c h)⟩
theorem use_give {P : V → Prop} (S : Sh H0 M H l) (r : ∀ n' s', Rep l a (.lst [.int n, .int s]) (.lst [.int n', .int s']) (l' n' s')) (hs : Sd n s)
    (q : ∀ v n' s' H', P v → Sd n' s' → Sh H0 M H' (l' n' s') → Q v H') : spGive P [.ref a] H Q E :=
  ⟨a, n, s, rfl, S.has _ (r n s).mem, hs, fun v n' s' H' c h p1 p3 => q v n' s' H' p1 p3 (S.ch1 (r n' s') c h)⟩
theorem use_giveI {lo hi : Int} (S : Sh H0 M H l) (r : ∀ n' s', Rep l a (.lst [.int n, .int s]) (.lst [.int n', .int s']) (l' n' s')) (hs : Sd n s)
    (q : ∀ z n' s' H', lo ≤ z → z ≤ hi → Sd n' s' → Sh H0 M H' (l' n' s') → Q (.int z) H') : spGive (IntIn lo hi) [.ref a] H Q E :=
  use_give S r hs fun v n' s' H' ⟨z, e, h1, h2⟩ hs S' => by rw [e]; exact q z n' s' H' h1 h2 hs S'
theorem use_source {ns : List Int} {t : Nat} (S : Sh H0 M H l) (h : SqL K H a (ns.map V.int)) (q : ∀ b n s H', Sd n s → Sh H0 M H' ((b, .lst [.int n, .int s], true) :: l) → Q (.ref b) H') : spSource K [.ref a, .int (t : Int)] H Q E :=
  ⟨a, ns, t, rfl, h, fun b n s H' hb c hh hs => q b n s H' hs (S.add c hb hh)⟩
end
end AF
/-! the plain steps, found by their heads -/
namespace AF
open PySem PySem.Spec PyProof.Rows L2
class Step (A : Prop) (B : outParam Prop) : Prop where
  go : B → A
class SlotI (σ : L2.St) (i : Nat) (v : outParam V) : Prop where
  at_ : σ[i]? = some (some v)
instance {v : V} {r : L2.St} : SlotI (some v :: r) 0 v := ⟨rfl⟩
instance {o : Option V} {r : L2.St} {i : Nat} {v : V} [h : SlotI r i v] : SlotI (o :: r) (i + 1) v := ⟨by rw [List.getElem?_cons_succ]; exact h.at_⟩
class SetI (σ : L2.St) (i : Nat) (v : V) (σ' : outParam L2.St) : Prop where
  eq : σ.set i (some v) = σ'
instance {o : Option V} {r : L2.St} {v : V} : SetI (o :: r) 0 v (some v :: r) := ⟨rfl⟩
instance {o : Option V} {r r' : L2.St} {i : Nat} {v : V} [h : SetI r i v r'] : SetI (o :: r) (i + 1) v (o :: r') := ⟨by rw [List.set_cons_succ, h.eq]⟩
class StartI (N : List Str) (vs : List V) (σ : outParam L2.St) : Prop where
  en : Ent0 N vs σ
instance : StartI [] [] [] := ⟨.nil⟩
instance {x : Str} {N : List Str} {v : V} {vs : List V} {σ : L2.St} [h : StartI N vs σ] : StartI (x :: N) (v :: vs) (some v :: σ) := ⟨.val h.en⟩
instance {x : Str} {N : List Str} {σ : L2.St} [h : StartI N [] σ] : StartI (x :: N) [] (none :: σ) := ⟨.non h.en⟩
section
variable {σ σ' : L2.St} {H : Hp} {Q : VK} {nx : L2.St → Hp → Prop} {rt : VK} {bk ct : L2.St → Hp → Prop} {ta tb tc te : TE} {t u : TS} {c d : TT} {i j : Int} {x y : V} {K : PySem.W.Frag} {a C dx : Addr} {f m : Str} {v : V} {k : Bool} {tr : TA} {sp : Sp} {E : XK} {QB : Bool → Hp → Prop} {QL : List V → Hp → Prop}
instance : Step (tSeq t u ⟨nx, rt, bk, ct⟩ σ H) (t ⟨fun σ H => u ⟨nx, rt, bk, ct⟩ σ H, rt, bk, ct⟩ σ H) := ⟨g_seq⟩
instance : Step (tNext ⟨nx, rt, bk, ct⟩ σ H) (nx σ H) := ⟨g_next⟩
instance {i : Nat} : Step (tAsg te (gName i) ⟨nx, rt, bk, ct⟩ σ H) (te σ H fun x H1 => nx (σ.set i (some x)) H1) := ⟨g_asg⟩
instance : Step (tRet te ⟨nx, rt, bk, ct⟩ σ H) (te σ H rt) := ⟨g_ret⟩
instance : Step (tRetN ⟨nx, rt, bk, ct⟩ σ H) (rt .non H) := ⟨g_retN⟩
instance : Step (tDrop te ⟨nx, rt, bk, ct⟩ σ H) (te σ H fun _ H1 => nx σ H1) := ⟨g_drop⟩
instance : Step (tIfS c t u ⟨nx, rt, bk, ct⟩ σ H) (c σ H fun b H1 => if b = true then t ⟨nx, rt, bk, ct⟩ σ H1 else u ⟨nx, rt, bk, ct⟩ σ H1) := ⟨g_if⟩
instance {i : Nat} [h : SlotI σ i v] : Step (tVar i σ H Q) (Q v H) := ⟨g_var h.at_⟩
instance : Step (tC v σ H Q) (Q v H) := ⟨g_c⟩
instance {r : R2} : Step (tOp r ta tb σ H Q) (ta σ H fun x H1 => tb σ H1 fun y H2 => r x y H2 Q) := ⟨g_op⟩
instance {r : V → Hp → VK → Prop} : Step (tUn r ta σ H Q) (ta σ H fun x H1 => r x H1 Q) := ⟨g_un⟩
instance {g : Int → Int → V} : Step (rI0 g (.int i) (.int j) H Q) (Q (g i j) H) := ⟨g_I0⟩
instance {g : Int → V} : Step (rU g (.int i) H Q) (Q (g i) H) := ⟨g_U⟩
instance : Step (rEq (.int i) (.int j) H Q) (Q (.bl (decide (i = j))) H) := ⟨g_eqI⟩
instance : Step (rNe (.int i) (.int j) H Q) (Q (.bl (!decide (i = j))) H) := ⟨g_neI⟩
instance : Step (tTest te σ H QB) (te σ H (kB QB)) := ⟨g_test⟩
instance : Step (tB te σ H QB) (te σ H (kB QB)) := ⟨g_tB⟩
instance : Step (kB QB (.bl k) H) (QB k H) := ⟨g_kb⟩
instance : Step (kAnd Q tb σ (.bl k) H) (if k = true then tb σ H Q else Q (.bl false) H) := ⟨g_kand⟩
instance : Step (kOr Q tb σ (.bl k) H) (if k = true then Q (.bl true) H else tb σ H Q) := ⟨g_kor⟩
instance : Step (kNot Q (.bl k) H) (Q (.bl (!k)) H) := ⟨g_knot⟩
instance {r' : R2} : Step (kChain r' tc σ y Q (.bl k) H) (if k = true then tc σ H fun w' H4 => r' y w' H4 Q else Q (.bl false) H) := ⟨g_kchain⟩
instance {r r' : R2} : Step (tChain r r' ta tb tc σ H Q) (ta σ H fun x H1 => tb σ H1 fun y H2 => r x y H2 (kChain r' tc σ y Q)) := ⟨g_chain⟩
instance : Step (tAndV ta tb σ H Q) (ta σ H (kAnd Q tb σ)) := ⟨g_andV⟩
instance : Step (tOrV ta tb σ H Q) (ta σ H (kOr Q tb σ)) := ⟨g_orV⟩
instance : Step (tNotV ta σ H Q) (ta σ H (kNot Q)) := ⟨g_notV⟩
instance : Step (tNot c σ H QB) (c σ H fun k H1 => QB (!k) H1) := ⟨g_tnot⟩
instance : Step (tAnd c d σ H QB) (c σ H fun k H1 => if k = true then d σ H1 QB else QB false H1) := ⟨g_tand⟩
instance : Step (tOr c d σ H QB) (c σ H fun k H1 => if k = true then QB true H1 else d σ H1 QB) := ⟨g_tor⟩
instance : Step (tIf c ta tb σ H Q) (c σ H fun k H1 => if k = true then ta σ H1 Q else tb σ H1 Q) := ⟨g_ifE⟩
instance : Step (tNil σ H QL) (QL [] H) := ⟨g_nil⟩
instance : Step (tCons ta tr σ H QL) (ta σ H fun x H1 => tr σ H1 fun xs H2 => QL (x :: xs) H2) := ⟨g_cons⟩
instance {r : List V → Hp → VK → Prop} : Step (tCB r tr σ H Q) (tr σ H fun vs H1 => r vs H1 Q) := ⟨g_cb⟩
instance : Step (tCall sp [] E tr σ H Q) (tr σ H fun vs H1 => sp vs H1 Q E) := ⟨g_call⟩
instance : Step (tProp C sp [] E ta σ H Q) (ta σ H (kProp C sp E Q)) := ⟨g_prop⟩
instance : Step (tMeth C m sp [] E ta tr σ H Q) (ta σ H (kMeth C m sp E tr σ Q)) := ⟨g_meth⟩
instance : Step (tMake C sp [] E tr σ H Q) (tr σ H (kMake C sp E Q)) := ⟨g_make⟩
instance : Step (rInt1 [.int i] H Q) (Q (.int i) H) := ⟨g_int⟩
instance : Step (rInt1 [.bl k] H Q) (Q (.int (if k then 1 else 0)) H) := ⟨g_intb⟩
instance : Step (tLst tr σ H Q) (tr σ H (kLst Q)) := ⟨g_lst⟩
instance : Step (tTup tr σ H Q) (tr σ H (kTup Q)) := ⟨g_tup⟩
instance {i j : Nat} : Step (tPar i j tr ⟨nx, rt, bk, ct⟩ σ H) (tr σ H (kPar nx σ i j)) := ⟨g_par⟩
instance {i j : Nat} {σ2 : L2.St} [h : SetI σ i x σ'] [h2 : SetI σ' j y σ2] : Step (kPar nx σ i j [x, y] H) (nx σ2 H) := ⟨fun q => ⟨x, y, rfl, by rw [h.eq, h2.eq]; exact q⟩⟩
instance {to ti : TE} {s : TSet} : Step (tAsg te (gSub to ti s) ⟨nx, rt, bk, ct⟩ σ H) (te σ H fun x H1 => to σ H1 fun o H2 => ti σ H2 fun i H3 => s o i x H3 fun H4 => nx σ H4) := ⟨g_sub⟩
instance : Step (tFld K ta f σ H Q) (ta σ H (kFld K f Q)) := ⟨g_fld⟩
instance {tv : TE} : Step (sFld K ta tv f ⟨nx, rt, bk, ct⟩ σ H) (tv σ H fun y H1 => ta σ H1 (kSFld K f (nx σ) y)) := ⟨g_sfld⟩
instance {ta : TA} {g : TG} {D : Ends} : Step (tFor (iRng1 ta) g t D σ H) (ta σ H (kR1 fun j H1 => Loop j.toNat g t D σ H1)) := ⟨g_for1⟩
end
theorem set_go {σ σ' : L2.St} {i : Nat} {v : V} {H : Hp} {A : L2.St → Hp → Prop} [h : SetI σ i v σ'] (q : A σ' H) : A (σ.set i (some v)) H := by rw [h.eq]; exact q
theorem start_go {N : List Str} {vs : List V} {σ : L2.St} {A : L2.St → Hp → Prop} {H : Hp} [h : StartI N vs σ] (q : A σ H) : A (L2.start N vs) H := g_start h.en q
end AF
/-! what the top leaves, looked at once -/
namespace AF
open PySem PySem.Spec PyProof.Rows L2 He
open PySem.W (Frag findIn isFn subIn selfFirst notFirst specialIn takesIn mroIn kitOne keepIn codeIn recIn)

/-- a def, by where it stands -/
structure DA where
  ad : Frag → Addr
  name : Str
  qual : Str
  st : Stmt
  dfl : List Dv := []
  kwd : List (Str × Dv) := []
def seeF (K : Frag) (a : Addr) : FnW := match K.lookup a with
  | some ⟨_, _, .func d, _⟩ => some (d.name, d.qualname, d.params, d.body, d.scope, d.globals, d.closure, d.builtins)
  | _ => none
def DA.want (d : DA) : FnW := some (d.name, d.qual, defArgs d.st, .stmts (defBody d.st), defScope d.st, mainGlobals, [], builtinsNs)
def DA.fine (K : Frag) (d : DA) : Bool := keepIn K (.ref (d.ad K)) && (match K.lookup (d.ad K) with
  | some ⟨_, _, .func fd, _⟩ => codeIn K fd.code d.qual && (dflB K fd.defaults (d.dfl.map (Dv.v K)) && kwdB K fd.kwdefaults (d.kwd.map fun q => (q.1, q.2.v K)))
  | _ => false)
theorem DA.get {K : Frag} {d : DA} (e : seeF K (d.ad K) = d.want) (c : d.fine K = true) :
    ∃ fd, FunD K d.name d.qual (defArgs d.st) (defBody d.st) (defScope d.st) (d.dfl.map (Dv.v K)) (d.kwd.map fun q => (q.1, q.2.v K)) (d.ad K) fd := by
  obtain ⟨kp, c2⟩ := ba c
  unfold seeF at e
  cases q : K.lookup (d.ad K) with
  | none => rw [q] at c2; cases c2
  | some o =>
    obtain ⟨oc, od, dt, osl⟩ := o
    rw [q] at c2 e
    cases dt with
    | func fd =>
      obtain ⟨n1, n2, n3, n4, n5, n6, n7, n8, n9, n10, n11, n12, n13, n14, n15⟩ := fd
      have e2 : (some (n1, n2, n3, n4, n5, n6, n7, n15) : FnW) = some (d.name, d.qual, defArgs d.st, .stmts (defBody d.st), defScope d.st, mainGlobals, [], builtinsNs) := e
      simp only [Option.some.injEq, Prod.mk.injEq] at e2
      obtain ⟨h1, h2, h3, h4, h5, h6, h7, h8⟩ := e2
      subst h1 h2 h3 h4 h5 h6 h7 h8
      obtain ⟨k1, k2⟩ := ba (show (codeIn K n13 d.qual && (dflB K n8 (d.dfl.map (Dv.v K)) && kwdB K n9 (d.kwd.map fun q => (q.1, q.2.v K)))) = true from c2)
      obtain ⟨k3, k4⟩ := ba k2
      exact ⟨_, ⟨oc, od, n8, n9, n10, n11, n12, n13, n14, osl, rfl, q, k1, dflB_ok k3, kwdB_ok k4⟩, kp⟩
    | _ => cases c2
abbrev Seen : Type := Bool × List FnW
def look (fs : Frag → List Bool) (ds : List DA) (K : Frag) : Seen := ((fs K).all id && ds.all fun d => d.fine K, ds.map fun d => seeF K (d.ad K))
def lookW (ds : List DA) : Seen := (true, ds.map DA.want)
def Tells (fs : Frag → List Bool) (ds : List DA) (K : Frag) : Prop := look fs ds K = lookW ds
def lookG (n : Nat) (fs : Frag → List Bool) (ds : List DA) (g : Addr → Option Obj) : Seen := look fs ds (frG g (asD g n))
def hook (n : Nat) (fs : Frag → List Bool) (ds : List DA) : PySem.W.Hook where
  α := Seen
  obs := fun s => lookG n fs ds s.heap.get?
  val := fun _ => lookW ds
  says := fun _ h => ∃ K : Frag, K.In h ∧ Tells fs ds K
  of := fun _ _ e => ⟨_, frG_in, e⟩
  keeps := fun _ _ _ ⟨K, hK, c⟩ k => ⟨K, Frag.In.keeps hK k, c⟩
theorem lookG_eq {n : Nat} {fs : Frag → List Bool} {ds : List DA} {g : Addr → Option Obj} {s : Shared} (h : ∀ a, g a = s.heap.get? a) : lookG n fs ds g = (hook n fs ds).obs s := by
  have e : g = s.heap.get? := funext h
  rw [e]
  rfl
section
variable {fs : Frag → List Bool} {ds : List DA} {K : Frag}
theorem Tells.fact (c : Tells fs ds K) (i : Nat) {b : Bool} (h : (fs K)[i]? = some b := by rfl) : b = true := by
  have c1 := (ba (show ((fs K).all id && ds.all fun d => d.fine K) = true from congrArg (fun z : Seen => z.1) c)).1
  exact List.all_eq_true.mp c1 b (List.mem_of_getElem? h)
theorem Tells.def_ (c : Tells fs ds K) (i : Nat) {d : DA} (h : ds[i]? = some d := by rfl) :
    ∃ fd, FunD K d.name d.qual (defArgs d.st) (defBody d.st) (defScope d.st) (d.dfl.map (Dv.v K)) (d.kwd.map fun q => (q.1, q.2.v K)) (d.ad K) fd := by
  have c2 := (ba (show ((fs K).all id && ds.all fun d => d.fine K) = true from congrArg (fun z : Seen => z.1) c)).2
  have e : ds.map (fun d => seeF K (d.ad K)) = ds.map DA.want := congrArg (fun z : Seen => z.2) c
  have e2 : (ds.map fun d => seeF K (d.ad K))[i]? = (ds.map DA.want)[i]? := by rw [e]
  rw [List.getElem?_map, List.getElem?_map, h] at e2
  exact DA.get (Option.some.inj e2) (List.all_eq_true.mp c2 d (List.mem_of_getElem? h))
end
/-! facts as truths -/
section
variable {K : Frag} {C f : Addr} {op : Operator} {T : String}
def refO : Option Value → Bool
  | some (.ref _) => true
  | none => true
  | _ => false
def refS : Option (Option Value) → Bool
  | some o => refO o
  | none => false
def fnS : Option (Option Value) → Bool
  | some (some (.ref _)) => true
  | _ => false
def binB (K : Frag) (op : Operator) (C f : Addr) : Bool := selfFirst K C && (eqO (findIn K (.ref C) (PySem.dunder op.info.2)) (some (some (.ref f))) && (isFn K (.ref f) && refS (findIn K (.ref C) (dunderR op.info.2))))
theorem binB_ok (h : binB K op C f = true) : Bin K op C f := by
  obtain ⟨h1, h⟩ := ba h
  obtain ⟨h2, h⟩ := ba h
  obtain ⟨h3, h4⟩ := ba h
  refine ⟨h1, eqO_ok h2, h3, ?_⟩
  cases e : findIn K (.ref C) (dunderR op.info.2) with
  | none => rw [e] at h4; cases h4
  | some o =>
    rw [e] at h4
    refine ⟨o, rfl, ?_⟩
    cases o with
    | none => exact .inl rfl
    | some v =>
      cases v with
      | ref a => exact .inr ⟨a, rfl⟩
      | _ => cases h4
def binTB (K : Frag) (op : Operator) (C : Addr) (T : String) : Bool := (findIn K (.type T) (PySem.dunder op.info.2)).isSome && ((findIn K (.type T) (dunderR op.info.2)).isSome && decide (subIn K (.type T) (.ref C) = some false))
theorem binTB_ok (h : binTB K op C T = true) : Beside K op C (.type T) := by
  obtain ⟨h1, h⟩ := ba h
  obtain ⟨h2, h3⟩ := ba h
  exact .inr ⟨T, rfl, Option.isSome_iff_exists.mp h1, Option.isSome_iff_exists.mp h2, of_decide_eq_true h3⟩
def binRB (K : Frag) (op : Operator) (C f : Addr) : Bool := selfFirst K C && (fnS (findIn K (.ref C) (PySem.dunder op.info.2)) && (eqO (findIn K (.ref C) (dunderR op.info.2)) (some (some (.ref f))) && (isFn K (.ref f) && decide (subIn K (.ref C) (.type "int") = some false))))
theorem binRB_ok (h : binRB K op C f = true) : BinR K op C f := by
  obtain ⟨h1, h⟩ := ba h
  obtain ⟨h2, h⟩ := ba h
  obtain ⟨h3, h⟩ := ba h
  obtain ⟨h4, h5⟩ := ba h
  refine ⟨h1, ?_, eqO_ok h3, h4, of_decide_eq_true h5⟩
  unfold fnS at h2
  split at h2
  · rename_i a e
    exact ⟨a, e⟩
  · cases h2
def cmpB (K : Frag) (op : CmpOp) (C f : Addr) : Bool := eqO (findIn K (.ref C) (cmpInfo op).2.1) (some (some (.ref f))) && isFn K (.ref f)
theorem cmpB_ok {op : CmpOp} (h : cmpB K op C f = true) : Cmp K op C f := by
  obtain ⟨h1, h2⟩ := ba h
  exact ⟨eqO_ok h1, h2⟩
def neB (K : Frag) (C f : Addr) : Bool := eqO (findIn K (.ref C) "__ne__") (some (some (.builtin "object.__ne__"))) && (eqO (findIn K (.ref C) "__eq__") (some (some (.ref f))) && (isFn K (.ref f) && decide (mroIn K C (.type "object") = some true)))
theorem neB_ok (h : neB K C f = true) : NeC K C f := by
  obtain ⟨h1, h⟩ := ba h
  obtain ⟨h2, h⟩ := ba h
  obtain ⟨h3, h4⟩ := ba h
  exact ⟨eqO_ok h1, eqO_ok h2, h3, of_decide_eq_true h4⟩
def insB (K : Frag) (C : Addr) : Bool := eqO (findIn K (.ref C) "__class__") (some (some (.builtin "object.__class__"))) && (eqO (specialIn K (.builtin "object.__class__") "__get__") (some (some (.builtin "getset_descriptor.__get__"))) &&
  (decide (takesIn K (.builtin "object.__class__") = some true) && (decide (mroIn K C (.type "object") = some true) && decide (kitOne K (.ref C) (.ref C) = some true))))
theorem insB_ok (c : Cls K C) (h : insB K C = true) : C8.InsC K C := by
  obtain ⟨h1, h⟩ := ba h
  obtain ⟨h2, h⟩ := ba h
  obtain ⟨h3, h⟩ := ba h
  obtain ⟨h4, h5⟩ := ba h
  exact ⟨c, eqO_ok h1, eqO_ok h2, of_decide_eq_true h3, of_decide_eq_true h4, of_decide_eq_true h5⟩
/-- a property's getter -/
def getA (C : Str) (m : Str) (K : Frag) : Addr := He5.wf K (ga K C) "property" m
def propB (K : Frag) (C : Addr) (m : Str) (g : Addr) : Bool := eqO (findIn K (.ref C) m) (some (some (.ref (ma K C m)))) && (eqO (specialIn K (.ref (ma K C m)) "__get__") (some (some (.builtin "property.__get__"))) &&
  (decide (takesIn K (.ref (ma K C m)) = some true) && (match recIn K (ma K C m) "property" with
    | some (.ref a :: _) => decide (a = g)
    | _ => false)))
theorem propB_ok {m : Str} {g : Addr} (h : propB K C m g = true) : PropOf K C m (ma K C m) g := by
  obtain ⟨h1, h⟩ := ba h
  obtain ⟨h2, h⟩ := ba h
  obtain ⟨h3, h4⟩ := ba h
  refine ⟨eqO_ok h1, eqO_ok h2, of_decide_eq_true h3, ?_⟩
  split at h4
  · rename_i a r e
    rw [of_decide_eq_true h4] at e
    exact ⟨r, e⟩
  · cases h4
end
end AF
/-! comprehensions over a short range, truths compared, counted -/
namespace AF
open PySem PySem.Spec PyProof.Rows L2
section
variable {H0 : Hp} {M : Addr → Prop} {H : Hp} {l l' : List Ent}
theorem Sh.perm (S : Sh H0 M H l) (p : l.Perm l') : Sh H0 M H l' :=
  ⟨S.fr, fun e he => S.has e (p.mem_iff.mpr he), (p.map tag).pairwise S.ap (fun {a b} h k => (h (k.symm)).symm), fun e he => S.mu e (p.mem_iff.mpr he)⟩
end
section
variable {σ σ' : L2.St} {H : Hp} {Q : VK} {K : PySem.W.Frag} {a b k : Bool} {nx : L2.St → Hp → Prop} {rt : VK} {bk ct : L2.St → Hp → Prop}
theorem g_eqB (q : Q (.bl (decide (a = b))) H) : rEq (.bl a) (.bl b) H Q := ⟨rfl, by
  have e : decide (V.bl a = V.bl b) = decide (a = b) := by rw [dec_bl]; cases a <;> cases b <;> rfl
  rw [e]; exact q⟩
theorem g_neB (q : Q (.bl (!decide (a = b))) H) : rNe (.bl a) (.bl b) H Q := ⟨rfl, by
  have e : decide (V.bl a = V.bl b) = decide (a = b) := by rw [dec_bl]; cases a <;> cases b <;> rfl
  rw [e]; exact q⟩
instance : Step (rEq (.bl a) (.bl b) H Q) (Q (.bl (decide (a = b))) H) := ⟨g_eqB⟩
instance : Step (rNe (.bl a) (.bl b) H Q) (Q (.bl (!decide (a = b))) H) := ⟨g_neB⟩
end
/-- a comprehension over a range of n turns, its variable in slot k -/
def LcR (n k : Nat) (te : TE) (σ : L2.St) (Q : VK) (H : Hp) : Prop := ∀ D, H D = none → ∃ W : Nat → Nat → Hp → Prop, (∃ m, W 0 m (upd H D (.lst []))) ∧ ∀ i m H, W i m H →
  ((Itr 0 n).stop i H ∧ Q (.ref D) H) ∨ ((Itr 0 n).go i H ∧ ∃ Nx : Hp → Prop, (∀ H', Nx H' → ∃ m', m' < m ∧ W (i + 1) m' H') ∧ ∀ x H', (Itr 0 n).yld i H x H' → gName k x (wipe σ [k]) H' fun σ2 H2 => wipe σ2 [k] = wipe σ [k] ∧ tYes σ2 H2 fun b H3 =>
    if b = true then te σ2 H3 fun y H4 => ∃ acc, H4 D = some (.lst acc) ∧ acc.length < sizeLine ∧ Nx (upd H4 D (.lst (acc ++ [y]))) else Nx H3)
/-- behind an element -/
def kEl (D : Addr) (P : Hp → Prop) (y : V) (H : Hp) : Prop := ∃ acc, H D = some (.lst acc) ∧ acc.length < sizeLine ∧ P (upd H D (.lst (acc ++ [y])))
section
variable {σ σ' : L2.St} {H : Hp} {Q : VK} {ta : TA} {te : TE} {k n : Nat}
theorem g_lcR (h : ta σ H (kR1 fun j H1 => LcR j.toNat k te σ Q H1)) : tLc (iRng1 ta) (gName k) tYes te [k] σ H Q := h
instance {x : Str} : Step (tLc (iRng1 ta) (gName k) tYes te (List.map (fun x => x.snd) [(x, k)]) σ H Q) (ta σ H (kR1 fun j H1 => LcR j.toNat k te σ Q H1)) := ⟨g_lcR⟩
theorem g_lcloop (hk : ∀ x : V, wipe ((wipe σ [k]).set k (some x)) [k] = wipe σ [k]) (Pv : Addr → Nat → Hp → Prop) (h0 : ∀ D, H D = none → Pv D 0 (upd H D (.lst [])))
    (hs : ∀ D (i : Nat) H', i < n → Pv D i H' → te ((wipe σ [k]).set k (some (.int (i : Int)))) H' (kEl D (Pv D (i + 1)))) (hd : ∀ D H', Pv D n H' → Q (.ref D) H') : LcR n k te σ Q H := fun D hD =>
  lc_range (lo := 0) (n := n) (Pv D) (h0 D hD) (fun i H' hi p => by
    have e : (0 : Int) + (i : Int) = (i : Int) := Int.zero_add _
    have q := hs D i H' hi p
    rw [← e] at q
    exact ⟨hk _, iteT (B := Pv D (i + 1) H') q⟩) (hd D)
theorem g_kel {H0 : Hp} {M : Addr → Prop} {l l' : List Ent} {D : Addr} {P : Hp → Prop} {acc : List V} {y : V} (S : Sh H0 M H l) (r : Rep l D (.lst acc) (.lst (acc ++ [y])) l') (hl : acc.length ≤ 1000) (q : ∀ H', Sh H0 M H' l' → P H') : kEl D P y H :=
  ⟨acc, S.has _ r.mem, small1000 hl, q _ (S.put r)⟩
end
theorem g_unl3 {σ σ1 σ2 σ3 : L2.St} {H : Hp} {K : PySem.W.Frag} {p : Addr} {x y z : V} {i j k : Nat} {P : L2.St → Hp → Prop} [h1 : SetI σ i x σ1] [h2 : SetI σ1 j y σ2] [h3 : SetI σ2 k z σ3] (h : H p = some (.lst [x, y, z])) (q : P σ3 H) :
    gUnl K 3 (gCons (gName i) (gCons (gName j) (gCons (gName k) gNil))) (.ref p) σ H P := by
  refine ⟨p, _, rfl, SqL.of h, rfl, x, _, rfl, y, _, rfl, z, _, rfl, rfl, ?_⟩
  rw [h1.eq, h2.eq, h3.eq]
  exact q
instance {te : TE} {K : PySem.W.Frag} {n : Nat} {t : TGs} {nx : L2.St → Hp → Prop} {rt : VK} {bk ct : L2.St → Hp → Prop} {σ : L2.St} {H : Hp} : Step (tAsg te (gUnl K n t) ⟨nx, rt, bk, ct⟩ σ H) (te σ H fun x H1 => gUnl K n t x σ H1 nx) := ⟨fun h => h⟩
/-- list.count of a truth in a list of truths -/
def eqb (k : Bool) (v : Value) : Bool := match v with
  | .bool b => b == k
  | _ => false
def rCntB (K : PySem.W.Frag) : V → List V → Hp → VK → Prop := fun x xs H Q => ∃ (p : Addr) (bs : List Bool) (k : Bool), x = .ref p ∧ xs = [.bl k] ∧ SqL K H p (bs.map V.bl) ∧ Q (.int (bs.count k : Nat)) H
theorem bools_of : ∀ {bs : List Bool} {us : List Value}, Vals (bs.map V.bl) us → us = bs.map Value.bool
  | [], _, .nil => rfl
  | b :: bs, _, .cons r t => by
    cases r
    rw [bools_of t]
    rfl
theorem countP_eqb {k : Bool} : ∀ bs : List Bool, (bs.map Value.bool).countP (eqb k) = bs.count k
  | [] => rfl
  | b :: bs => by
    rw [List.map_cons, List.countP_cons, List.count_cons, countP_eqb bs]
    rfl
theorem mt_bcount {X : Cx} : MtR X "list.count" (rCntB X.K) := by
  intro pins s σ H x xs v us Q I rx rxs h
  obtain ⟨p, bs, k, rfl, rfl, hs, q⟩ := h
  cases rx
  obtain ⟨u, rfl, ru⟩ := rxs.one
  cases ru
  obtain ⟨its, rv, ⟨⟨cls, dd, data, sl⟩, n, ho, hc, hdn, hd⟩, hlen⟩ := I.list hs
  simp only at hc hd
  subst hc hd
  have hi := bools_of rv
  subst hi
  refine call_meets PySem.F.slot_list_count ⟨_, ho, rfl⟩ PySem.F.entry_list_count (PySem.F.args_list_count_2 _ _)
    (SeqAt.list_countAt p (bs.map Value.bool).toArray n dd sl (.bool k) (eqb k)) ⟨ho, fun y hy => ?_, ?_⟩
  · have hy' : y ∈ bs.map Value.bool := List.mem_toArray.mp hy
    obtain ⟨b, _, rfl⟩ := List.mem_map.mp hy'
    exact SeqAt.EqAt.bool_bool b k
  · refine ⟨.int (bs.count k : Nat), H, I.tok _, ⟨s.toks, ?_⟩, q⟩
    show Value.int (((bs.map Value.bool).toArray.toList.countP (eqb k) : Nat) : Int) s.toks = Value.int ((bs.count k : Nat) : Int) s.toks
    rw [show ((bs.map Value.bool).toArray.toList) = bs.map Value.bool from rfl, countP_eqb]
def kBM (K : PySem.W.Frag) (T : String) (r : V → List V → Hp → VK → Prop) (t : TA) (σ : L2.St) (Q : VK) (x : V) (H : Hp) : Prop := tyV K T x H ∧ t σ H fun xs H2 => r x xs H2 Q
instance {K : PySem.W.Frag} {T : String} {r : V → List V → Hp → VK → Prop} {to : TE} {t : TA} {σ : L2.St} {H : Hp} {Q : VK} : Step (tBM K T r to t σ H Q) (to σ H (kBM K T r t σ Q)) := ⟨fun h => h⟩
/-- xs.count(k), xs just made -/
theorem g_cnt3 {H0 : Hp} {M : Addr → Prop} {l : List Ent} {σ : L2.St} {H : Hp} {Q : VK} {K : PySem.W.Frag} {p : Addr} {x y z : Bool} (S : Sh H0 M H l) (o : On l p (.lst [.bl x, .bl y, .bl z]))
    (q : Q (.int (([x, y, z] : List Bool).count true : Nat)) H) : kBM K "list" (rCntB K) (tCons (tC (.bl true)) tNil) σ Q (.ref p) H :=
  ⟨.inl ⟨rfl, _, SqL.of (S.has_ o)⟩, p, [x, y, z], true, rfl, rfl, SqL.of (S.has_ o), q⟩
end AF
/-! dicts: written ones with texts for keys, and new ones -/
namespace AF
open PySem PySem.Spec PyProof.Rows L2
/-- what stands at a key of a written dict, or the other value -/
def Here (r : Option Value) (v z : V) : Prop := match r with
  | some u => RelV v u
  | none => v = z
def tKGet (K : PySem.W.Frag) (d : Addr) (td ty tx : TE) : TE := fun σ H Q => td σ H fun x H1 => x = .ref d ∧ ty σ H1 fun y H2 => tx σ H2 fun z H3 => ∃ (k : Str) (r : Option Value) (v : V), y = .str k ∧ PySem.W.nsIn K d k = some r ∧ Here r v z ∧ Q v H3
theorem pe_kget {X : Cx} {d : Addr} {o e f : Expr} {apos cpos : Pos} {td ty tx : TE} (D : ∃ es n, KDict X.K X.w d es n) (ho : PE X o td) (he : PE X e ty) (hf : PE X f tx) (m : M2 X o "get" apos e f cpos) :
    PE X (.Call (.Attribute o "get" apos) [e, f] [] cpos) (tKGet X.K d td ty tx) := by
  obtain ⟨es, n, D⟩ := D
  refine ⟨fun pins s σ H Q I h => ?_⟩
  refine wpAny_Call_method m.base m.few m.line PySem.F.plainAttrs_dict PySem.F.slot_dict_get PySem.F.type_dict_get (thn (ho.run pins s σ H _ I h) fun u s1 ⟨x, H1, I1, rx, ex, q1⟩ => ?_)
  subst ex
  obtain rfl : u = Value.ref d := rx
  refine ⟨kd_type D I1, fun b q => ?_, ?_⟩
  · cases q
    exact ⟨_, I1.kIn _ _ D.at_, rfl⟩
  rw [m.trees]
  refine Calls.callWith_builtin rfl (Calls.evalArgs_plain (Calls.spliced_cons (thn (he.run pins s1 σ H1 _ I1 q1) fun iv s2 ⟨y, H2, I2, ry, q2⟩ =>
    Calls.spliced_cons (thn (hf.run pins s2 σ H2 _ I2 q2) fun fv s3 ⟨z, H3, I3, rz, k, r, v, ey, hk, hv, q3⟩ => Calls.spliced_nil ?_))))
  subst ey
  obtain ⟨t, rfl⟩ := ry
  refine call_meetsIn PySem.F.slot_dict_get (kd_type D I3) PySem.F.entry_dict_get (PySem.F.args_dict_get_3 _ _ _) (meets_dict_get_default (strKind X.prog X.w) d (PySem.strKind_is X.prog X.w k t) D.low fv) ⟨_, PySem.W.mapOf_K (prog := X.prog) I3.kIn D.at_ D.lit, ?_⟩
  rw [PySem.W.find_K D.at_ hk]
  cases r with
  | none =>
    have e : v = z := hv
    subst e
    exact ⟨v, H3, I3.tok _, rz, q3⟩
  | some u => exact ⟨v, H3, I3.tok _, hv, q3⟩
/-- a written tuple -/
def KT (K : PySem.W.Frag) (a : Addr) (xs : List V) : Prop := ∃ (o : Obj) (its : Array Value) (n : Nat), K.lookup a = some o ∧ o.cls = .type "tuple" ∧ o.data = .seq its n ∧ its.size ≤ sizeLine ∧ Vals xs its.toList
theorem KT.sq {K : PySem.W.Frag} {a : Addr} {xs : List V} {H : Hp} (h : KT K a xs) : SqT K H a xs := .inr h
/-- turn by turn -/
def Each (g : TG) (tb : TS) (D : Ends) : List V → L2.St → Hp → Prop
  | [] => D.nx
  | x :: r => fun σ H => g x σ H fun σ2 H2 => tb { D with nx := Each g tb D r, ct := Each g tb D r, bk := D.nx } σ2 H2
def kTurn (K : PySem.W.Frag) (g : TG) (tb : TS) (D : Ends) (σ : L2.St) : V → Hp → Prop := fun x H => ∃ a, x = .ref a ∧ (∃ xs, SqT K H a xs) ∧ ∃ W : Nat → Nat → L2.St → Hp → Prop, (∃ m, W 0 m σ H) ∧ ∀ i m σ H, W i m σ H →
  ((Itt K a).stop i H ∧ D.nx σ H) ∨ ((Itt K a).go i H ∧ ∃ N : L2.St → Hp → Prop, (∀ σ' H', N σ' H' → ∃ m', m' < m ∧ W (i + 1) m' σ' H') ∧ ∀ x H', (Itt K a).yld i H x H' → g x σ H' fun σ2 H2 => tb { D with nx := N, ct := N, bk := D.nx } σ2 H2)
instance {K : PySem.W.Frag} {ta : TE} {g : TG} {tb : TS} {D : Ends} {σ : L2.St} {H : Hp} : Step (tFor (iTup K ta) g tb D σ H) (ta σ H (kTurn K g tb D σ)) := ⟨fun h => h⟩
theorem g_turn {K : PySem.W.Frag} {a : Addr} {xs : List V} {g : TG} {tb : TS} {D : Ends} {σ : L2.St} {H : Hp} (h : KT K a xs) (q : Each g tb D xs σ H) : kTurn K g tb D σ (.ref a) H := by
  refine ⟨a, rfl, ⟨xs, h.sq⟩, for_tup (fun i σ H => Each g tb D (xs.drop i) σ H) q (fun _ _ _ _ _ => h.sq) (fun i x σ H hx p => ?_) fun σ H p => ?_⟩
  · obtain ⟨hi, e⟩ := List.getElem?_eq_some_iff.mp hx
    rw [List.drop_eq_getElem_cons hi, e] at p
    exact p
  · rw [List.drop_length] at p
    exact p
instance {i : Nat} {tb : TS} {nx bk ct : L2.St → Hp → Prop} {rt : VK} {x : V} {r : List V} {σ : L2.St} {H : Hp} : Step (Each (gName i) tb ⟨nx, rt, bk, ct⟩ (x :: r) σ H) (tb ⟨Each (gName i) tb ⟨nx, rt, bk, ct⟩ r, rt, nx, Each (gName i) tb ⟨nx, rt, bk, ct⟩ r⟩ (σ.set i (some x)) H) := ⟨fun h => h⟩
instance {g : TG} {tb : TS} {nx bk ct : L2.St → Hp → Prop} {rt : VK} {σ : L2.St} {H : Hp} : Step (Each g tb ⟨nx, rt, bk, ct⟩ [] σ H) (nx σ H) := ⟨fun h => h⟩
section
variable {K : PySem.W.Frag} {d a p : Addr} {H H0 : Hp} {M : Addr → Prop} {l l' : List Ent} {Q : VK} {z : Str} {xs : List V} {i : Int} {v : V} {σ : L2.St} {td ty tx : TE}
theorem g_ixT (h : H p = some (.tup xs)) (ha : atI xs i = some v) (q : Q v H) : rIxT K (.ref p) (.int i) H Q := ⟨p, xs, i, v, rfl, rfl, SqT.of h, ha, q⟩
theorem g_inT {x : V} {r : Bool} (h : H p = some (.tup xs)) (fx : flatV x = true) (fs : xs.all flatV = true) (e : inV x xs = r) (q : Q (.bl r) H) : rIn K false x (.ref p) H Q := ⟨p, xs, rfl, .inr (SqT.of h), fx, fs, by rw [e]; exact q⟩
theorem g_ninT {x : V} {r : Bool} (h : H p = some (.tup xs)) (fx : flatV x = true) (fs : xs.all flatV = true) (e : inV x xs = r) (q : Q (.bl (!r)) H) : rIn K true x (.ref p) H Q := ⟨p, xs, rfl, .inr (SqT.of h), fx, fs, by rw [e]; exact q⟩
theorem g_inKT {x : V} {r : Bool} (h : KT K p xs) (fx : flatV x = true) (fs : xs.all flatV = true) (e : inV x xs = r) (q : Q (.bl r) H) : rIn K false x (.ref p) H Q := ⟨p, xs, rfl, .inr h.sq, fx, fs, by rw [e]; exact q⟩
/-- x in d, d a written dict -/
def rInK (K : PySem.W.Frag) (d : Addr) (neg : Bool) : R2 := fun x y H Q => ∃ (z : Str) (r : Option Value), x = .str z ∧ y = .ref d ∧ PySem.W.nsIn K d z = some r ∧ Q (.bl (if neg then !r.isSome else r.isSome)) H
theorem op_inK {X : Cx} {d : Addr} (D : ∃ es n, KDict X.K X.w d es n) : OpR X (compareOp .In) (rInK X.K d false) := by
  obtain ⟨es, n, D⟩ := D
  exact op_in_kd D
theorem op_notInK {X : Cx} {d : Addr} (D : ∃ es n, KDict X.K X.w d es n) : OpR X (compareOp .NotIn) (rInK X.K d true) := by
  obtain ⟨es, n, D⟩ := D
  exact op_notIn_kd D
theorem g_inK {r : Option Value} (e : PySem.W.nsIn K d z = some r) (q : Q (.bl r.isSome) H) : rInK K d false (.str z) (.ref d) H Q := ⟨z, r, rfl, rfl, e, q⟩
theorem g_ninK {r : Option Value} (e : PySem.W.nsIn K d z = some r) (q : Q (.bl (!r.isSome)) H) : rInK K d true (.str z) (.ref d) H Q := ⟨z, r, rfl, rfl, e, q⟩
theorem g_ixK {w : World} {u : Value} (D : ∃ es n, KDict K w d es n) (e : PySem.W.nsIn K d z = some (some u)) (hv : RelV v u) (q : Q v H) : rIxD K w (.ref d) (.str z) H Q := by
  obtain ⟨es, n, D⟩ := D
  exact ⟨d, z, v, rfl, rfl, ⟨es, n, u, D.at_, D.lit, e, hv⟩, q⟩
theorem g_ixKr {w : World} {t : Addr} (D : ∃ es n, KDict K w d es n) (e : PySem.W.nsIn K d z = some (some (.ref t))) (q : Q (.ref t) H) : rIxD K w (.ref d) (.str z) H Q := g_ixK (v := .ref t) D e rfl q
/-- what .get asks behind its parts -/
def kKG3 (K : PySem.W.Frag) (d : Addr) (Q : VK) (y : V) : VK := fun z H3 => ∃ (k : Str) (r : Option Value) (v : V), y = .str k ∧ PySem.W.nsIn K d k = some r ∧ Here r v z ∧ Q v H3
def kKG1 (K : PySem.W.Frag) (d : Addr) (ty tx : TE) (σ : L2.St) (Q : VK) : VK := fun x H1 => x = .ref d ∧ ty σ H1 fun y H2 => tx σ H2 (kKG3 K d Q y)
instance : Step (tKGet K d td ty tx σ H Q) (td σ H (kKG1 K d ty tx σ Q)) := ⟨fun h => h⟩
instance : Step (kKG1 K d ty tx σ Q (.ref d) H) (ty σ H fun y H2 => tx σ H2 (kKG3 K d Q y)) := ⟨fun h => ⟨rfl, h⟩⟩
theorem g_kg {r : Option Value} {y : V} (e : PySem.W.nsIn K d z = some r) (hv : Here r v y) (q : Q v H) : kKG3 K d Q (.str z) y H := ⟨z, r, v, rfl, e, hv, q⟩
theorem g_kgR {t : Addr} {y : V} (e : PySem.W.nsIn K d z = some (some (.ref t))) (q : Q (.ref t) H) : kKG3 K d Q (.str z) y H := g_kg (v := .ref t) e (show L2.RelV (.ref t) (.ref t) from rfl) q
theorem g_kg0 {y : V} (e : PySem.W.nsIn K d z = some none) (q : Q y H) : kKG3 K d Q (.str z) y H := g_kg (v := y) e rfl q
theorem g_dnew (S : Sh H0 M H l) (q : ∀ p H', H p = none → Sh H0 M H' ((p, .dK [], true) :: l) → Q (.ref p) H') : tDNewK σ H Q := fun p hp => q p _ hp (S.new hp)
theorem g_setD {kvs kvs' : List (Key × V)} {P : Hp → Prop} (S : Sh H0 M H l) (r : Rep l p (.dK kvs) (.dK kvs') l') (hn : Nat.blt kvs.length 1000 = true) (e : putK kvs (.inr z) v = kvs') (q : ∀ H', Sh H0 M H' l' → P H') : rSetD (.ref p) (.str z) v H P := by
  subst e
  exact ⟨p, _, rfl, .inl ⟨kvs, .inr z, S.has _ r.mem, rfl, Nat.lt_trans (Nat.le_of_ble_eq_true hn) (small1000 (Nat.le_refl _)), rfl⟩, q _ (S.put r)⟩
end
/-- d[k] of a dict that stands in the heap -/
def kDG (Q : VK) (x : V) : VK := fun y H2 => ∃ a v, x = .ref a ∧ DGet H2 a y (some v) ∧ Q v H2
section
variable {K : PySem.W.Frag} {d a p : Addr} {H H0 : Hp} {M : Addr → Prop} {l l' : List Ent} {Q : VK} {z : Str} {xs : List V} {v : V} {σ : L2.St} {td ty tx : TE} {kvs : List (Key × V)}
instance : Step (tDGet td ty σ H Q) (td σ H fun x H1 => ty σ H1 (kDG Q x)) := ⟨fun h => h⟩
theorem g_dg (h : H a = some (.dK kvs)) (e : valV kvs (.inr z) = some v) (q : Q v H) : kDG Q (.ref a) (.str z) H := by
  refine ⟨a, v, rfl, ?_, q⟩
  rw [← e]
  exact DGet.k (k := .inr z) h
/-- dict(d) -/
def rDictD : List V → Hp → VK → Prop := fun xs H Q => ∃ (a : Addr) (kvs : List (Key × V)), xs = [.ref a] ∧ Rd H a (.dK kvs) ∧ ∀ p, H p = none → Q (.ref p) (upd H p (.dK kvs))
theorem cl_dictD {X : Cx} : CallR X (.type "dict") rDictD := call_dictD
theorem g_dictD (S : Sh H0 M H l) (h : H a = some (.dK kvs)) (q : ∀ p H', H p = none → Sh H0 M H' ((p, .dK kvs, true) :: l) → Q (.ref p) H') : rDictD [.ref a] H Q := ⟨a, kvs, rfl, .inl h, fun p hp => q p _ hp (S.new hp)⟩
end
end AF
/-! static methods called by their class -/
namespace AF
open PySem PySem.Spec PyProof.Rows L2
/-- C.m is a static method: its record at p, its def at g -/
structure SMet (K : PySem.W.Frag) (C : Addr) (m : Str) (p g : Addr) : Prop where
  rd : ClX.CRead K C (.type "type")
  at_ : PySem.W.findCls K (.ref C) (.type "type") m = some (.get (.builtin "staticmethod.__get__") (.ref p) .none (.ref C))
  rc : ∃ rest, PySem.W.recIn K p "staticmethod" = some (.ref g :: rest)
section
variable {X : Cx} {k : Nat} {C p g : Addr} {ps : List Str} {sp : Sp} {E : XK} {o e : Expr} {es : List Expr} {m x : Str} {pos apos p1 : Pos} {t : TA} {pl : Sem Bool}
theorem getsm_ok {A : Around} {E : Value → Shared → Prop} {pins : List (Addr × Obj)} {σ : L2.St} {H : Hp} {s : Shared} {Q : Value × List Value → Shared → Prop} (I : Inv X pins σ H s) (c : SMet X.K C m p g)
    (h : ∀ s', Inv X pins σ H s' → Q (.ref g, []) s') : wpAny (model X.prog X.w) A (getMethod (.ref C) m pl) Q E s := by
  obtain ⟨rest, hp⟩ := c.rc
  refine PySem.W.method_cls I.kIn c.rd.ga (PySem.W.cls_bind I.kIn c.rd.rd c.at_ ?_)
  exact wpAny_call (PySem.W.sm_get (s := { s with toks := s.toks + 1 }) I.kIn hp (PySem.W.handed_on rfl (h _ (I.tok _))))
theorem pe_sm (c : SMet X.K C m p g) (D : Dn X.prog X.w X.K X.mg X.base k g ps sp) (hr : Room k X.A) (hg : Gl X x) (hm : X.mg x = some (.ref C)) (hx : Passes (L2.CX X.prog X.w) X E) (ha : PA X (e :: es) t) (hdb : (x == ("__debug__" : Str)) = false := by decide)
    (hst : starEach (e :: es) X.env = (false, eval e X.env) :: starEach es X.env := by rfl) (hpl : (backTo pos (starEach es X.env)).any (·.1) = false := by rfl)
    (ht : eval (.Call (.Attribute (.Name x p1) m apos) (e :: es) [] pos) X.env = (do
      let ov ← eval (.Name x p1) X.env
      standAt apos.atName
      let (f, first) ← holding [ov] (getMethod ov m pl)
      callWith pos f first (backTo pos (starEach (e :: es) X.env)) (backToKw pos (keywordEach [] X.env))) := by rfl) :
    PE X (.Call (.Attribute (.Name x p1) m apos) (e :: es) [] pos) (tCall sp [] E t) := by
  obtain ⟨fd, F, b⟩ := D.ex
  refine ⟨fun pins s σ H Q I h => ?_⟩
  have hn : PE X (.Name x p1) (tC (.ref C)) := pe_glob (v := .ref C) hg hm rfl hdb
  refine PySem.W.methodCall_KW (pl := pl) (thn (hn.run pins s σ H (fun v H1 => v = .ref C ∧ tCall sp [] E t σ H1 Q) I ⟨rfl, h⟩) fun u s1 ⟨y, H1, I1, rx, ex, q⟩ => ?_) ht
  subst ex
  obtain rfl : u = Value.ref C := rx
  refine getsm_ok I1 c fun s2 I2 => ?_
  refine PySem.W.callWith_K (first := []) (h₀ := X.base) I.ok.mod.kin D.kp (thn (ha.run pos pins s2 σ H1 _ I2 q) fun us s3 ⟨vs, H2, I3, r, q2⟩ => ⟨I3.kIn, ?_⟩) hst hpl
  exact run_fn (us := us) (vs := vs) F hr b .nil hx I3 r q2
theorem pe_sm0 (c : SMet X.K C m p g) (D : Dn X.prog X.w X.K X.mg X.base k g [] sp) (hr : Room k X.A) (hg : Gl X x) (hm : X.mg x = some (.ref C)) (hx : Passes (L2.CX X.prog X.w) X E) (hdb : (x == ("__debug__" : Str)) = false := by decide)
    (ht : eval (.Call (.Attribute (.Name x p1) m apos) [] [] pos) X.env = (do
      let ov ← eval (.Name x p1) X.env
      standAt apos.atName
      let (f, first) ← holding [ov] (getMethod ov m pl)
      callWith pos f first (backTo pos (starEach [] X.env)) (backToKw pos (keywordEach [] X.env))) := by rfl) :
    PE X (.Call (.Attribute (.Name x p1) m apos) [] [] pos) (tCall sp [] E tNil) := by
  obtain ⟨fd, F, b⟩ := D.ex
  refine ⟨fun pins s σ H Q I h => ?_⟩
  have hn : PE X (.Name x p1) (tC (.ref C)) := pe_glob (v := .ref C) hg hm rfl hdb
  refine PySem.W.methodCall_KW (pl := pl) (thn (hn.run pins s σ H (fun v H1 => v = .ref C ∧ tCall sp [] E tNil σ H1 Q) I ⟨rfl, h⟩) fun u s1 ⟨y, H1, I1, rx, ex, q⟩ => ?_) ht
  subst ex
  obtain rfl : u = Value.ref C := rx
  refine getsm_ok I1 c fun s2 I2 => ?_
  exact PySem.W.callWith_K0 I2.kIn D.kp (run_fn (us := []) (vs := []) F hr b .nil hx I2 .nil q)
end
/-! the facts as truths -/
def smB (K : PySem.W.Frag) (C : Addr) (m : Str) (p g : Addr) : Bool := PySem.W.readsIn K C (.type "type") && (He.eqO (PySem.W.specialIn K (.ref C) "__getattribute__") (some (some (.builtin "type.__getattribute__"))) &&
  ((match PySem.W.findCls K (.ref C) (.type "type") m with
    | some (.get (.builtin b) (.ref q) .none (.ref D)) => decide (b = "staticmethod.__get__") && (decide (q = p) && decide (D = C))
    | _ => false) &&
  (match PySem.W.recIn K p "staticmethod" with
    | some (.ref a :: _) => decide (a = g)
    | _ => false)))
theorem smB_ok {K : PySem.W.Frag} {C p g : Addr} {m : Str} (h : smB K C m p g = true) : SMet K C m p g := by
  obtain ⟨h1, h⟩ := He.ba h
  obtain ⟨h2, h⟩ := He.ba h
  obtain ⟨h3, h4⟩ := He.ba h
  refine ⟨⟨h1, He.eqO_ok h2⟩, ?_, ?_⟩
  · split at h3
    · rename_i b q D e
      obtain ⟨a1, a⟩ := He.ba h3
      obtain ⟨a2, a3⟩ := He.ba a
      rw [e, of_decide_eq_true a1, of_decide_eq_true a2, of_decide_eq_true a3]
    · cases h3
  · split at h4
    · rename_i a r e
      rw [of_decide_eq_true h4] at e
      exact ⟨r, e⟩
    · cases h4
end AF
/-! own errors that keep one value -/
namespace AF
open PySem PySem.Spec PyProof.Rows L2
/-- __init__(self, f): self.f = f -/
def spErr (C : Addr) (f : Str) : Sp := fun vs H Q _ => ∃ (a : Addr) (v : V), vs = [.ref a, v] ∧ H a = some (exo a C none) ∧ ∀ d, H d = none → d ≠ a → Q .non (upd (upd H d (exd d [(f, v)])) a (exo a C (some d)))
theorem read_err {C : Addr} {K : PySem.W.Frag} {f : Str} {N : List Str} {vs : List V} {H : Hp} {Q : VK} {E : XK} {σ : L2.St} (T : OexC K C) (hno : PySem.W.findIn K (.ref C) f = some none) (h : spErr C f vs H Q E) (hσ : Ent0 N vs σ) (h0 : ∀ a v, vs = [V.ref a, v] → σ[0]? = some (some (.ref a)) ∧ σ[1]? = some (some v)) :
    tOst K f (tVar 0) (tVar 1) { nx := fun _ H' => Q .non H', rt := Q } (L2.start N vs) H := by
  obtain ⟨a, v, e, ha, k⟩ := h
  rw [hσ.eq]
  obtain ⟨h1, h2⟩ := h0 a v e
  exact ⟨v, h2, .ref a, h1, a, C, rfl, T, hno, .inl ⟨ha, fun d n1 n2 => k d n1 n2⟩⟩
structure Xn (P : Program) (w : World) (K : PySem.W.Frag) (mg : Str → Option Value) (base : Heap) (k : Nat) (C : Addr) (f : Str) : Prop where
  ex : ∃ fI fd ps, PySem.W.findIn K (.ref C) "__init__" = some (some (.ref fI)) ∧ PySem.W.typeIn K (.ref fI) = some (.type "function") ∧ FnOk P w K mg base (L2.CX P w) k fI fd ps (spErr C f) ∧ Binds K fd ps []
  ox : OexC K C
/-- raise X(e): what is asked behind e -/
def kErr (C : Addr) (f : Str) (W : WX) (σ : L2.St) (v : V) (H1 : Hp) : Prop := ([v] : List V).length ≤ 1000 ∧ ∀ a, H1 a = none → spErr C f (.ref a :: ([v] ++ [])) (upd H1 a (exo a C none))
  (fun u H2 => u = .non ∧ ∃ (d : Addr) (fs : List (Str × V)), H2 a = some (exo a C (some d)) ∧ H2 d = some (exd d fs) ∧ H1 d = none ∧ W (.ref C) (some d) σ (upd (del H2 a) d (.xd fs))) (fun _ _ _ => False)
def tErr (C : Addr) (f : Str) (te : TE) (W : WX) : TS := fun _ σ H => te σ H (kErr C f W σ)
theorem heap_back {H : Hp} {a d : Addr} {o1 o2 o3 o4 : HO} (ha : H a = none) : upd (del (upd (upd (upd H a o1) d o2) a o3) a) d o4 = upd H d o4 := by
  funext b
  by_cases hd : b = d
  · rw [hd, upd_same, upd_same]
  · rw [upd_ne hd, upd_ne hd]
    by_cases hb : b = a
    · rw [hb, del_same, ha]
    · rw [del_ne hb, upd_ne hb, upd_ne hd, upd_ne hb]
theorem g_kerr {C : Addr} {f : Str} {W : WX} {σ : L2.St} {v : V} {H1 : Hp} (q : ∀ d, H1 d = none → W (.ref C) (some d) σ (upd H1 d (.xd [(f, v)]))) : kErr C f W σ v H1 := by
  refine ⟨by simp, fun a ha => ⟨a, v, rfl, upd_same, fun d hd hda => ⟨rfl, d, [(f, v)], upd_same, ?_, ?_, ?_⟩⟩⟩
  · rw [upd_ne hda, upd_same]
  · rw [upd_ne hda] at hd; exact hd
  · rw [heap_back ha]
    rw [upd_ne hda] at hd
    exact q d hd
theorem ps_err {X : Cx} {k : Nat} {C : Addr} {f x : Str} {W : WX} {e : Expr} {te : TE} {p pos pos' : Pos} (D : Xn X.prog X.w X.K X.mg X.base k C f) (hr : Room (k + 1) X.A) (hc : X.calm = true) (tk : Takes X W) (hg : Gl X x) (hm : X.mg x = some (.ref C)) (hx : Passes (L2.CX X.prog X.w) X (fun _ _ _ => False))
    (he : PE X e te) (hst : starEach [e] X.env = (false, eval e X.env) :: starEach [] X.env := by rfl) (hpl : (backTo pos (starEach [] X.env)).any (·.1) = false := by rfl) (hdb : (x == ("__debug__" : Str)) = false := by decide) :
    PS X (.Raise (some (.Call (.Name x p) [e] [] pos)) none pos') (tErr C f te W) := by
  obtain ⟨fI, fd, ps, iC, tI, F, b⟩ := D.ex
  have mk := pmk_oex (pos := pos) (p := p) D.ox iC tI F hr b .nil hx hg hm (pa_cons he pa_nil hst) hdb hst hpl
  exact ps_raise (pos := pos') hc tk mk
/-- an error comes out: its dict is new, all else stays -/
def Err (C : Addr) (f : Str) (v : V) (H : Hp) (E : XK) : Prop := ∀ d H', H d = none → Ch [] H H' → H' d = some (.xd [(f, v)]) → E (.ref C) (some d) H'
theorem g_err {C : Addr} {f : Str} {W : WX} {σ : L2.St} {v : V} {H0 H : Hp} {l : List Ent} {M : Addr → Prop} (S : Sh H0 M H l) (q : ∀ d H', Sh H0 M H' ((d, .xd [(f, v)], true) :: l) → W (.ref C) (some d) σ H') : kErr C f W σ v H :=
  g_kerr fun d hd => q d _ (S.new hd)
instance {C : Addr} {f : Str} {te : TE} {W : WX} {D : Ends} {σ : L2.St} {H : Hp} : Step (tErr C f te W D σ H) (te σ H (kErr C f W σ)) := ⟨fun h => h⟩
theorem end_err {C d : Addr} {f : Str} {v : V} {H H' : Hp} {l : List Ent} {E : XK} (S : Sh H (fun _ => False) H' ((d, .xd [(f, v)], true) :: l)) (k : Err C f v H E) : E (.ref C) (some d) H' :=
  k d H' ((S.mu _ List.mem_cons_self rfl).elim False.elim id) (S.out fun _ h => h.elim) (S.has_ .here)
/-- facts of such a class -/
def tyB : Value → Bool
  | .type n => decide (n = "type")
  | _ => false
def veB : Option Value → Bool
  | some (.builtin n) => decide (n = "ValueError.__new__")
  | _ => false
def slB : List (Option Value) → Bool
  | [_, _, _, _, x, _] => veB x
  | _ => false
def mroB (C : Addr) : List Value → Bool
  | .ref a :: bm => decide (a = C) && PySem.HandSPX.refsVE bm
  | _ => false
def shapeB (C : Addr) : Option Obj → Bool
  | some ⟨cl, _, .cls cd, sl⟩ => tyB cl && (mroB C cd.mro && (cd.hasDict && (!cd.hasDel && slB sl.toList)))
  | _ => false
def oexB (K : PySem.W.Frag) (C : Addr) : Bool := shapeB C (K.lookup C) && (He.eqO (PySem.W.findIn K (.ref C) "__setattr__") (some (some (.builtin "object.__setattr__"))) && (decide (PySem.W.subIn K (.ref C) (.type "BaseException") = some true) &&
  (He.eqO (some (PySem.W.typeIn K (.ref C))) (some (some (.type "type"))) && PySem.W.keepIn K (.ref C))))
theorem shape_ok {C : Addr} {o : Option Obj} (h : shapeB C o = true) : ∃ nm q N bs bm sn sub ab col dd k0 k1 k2 k3 k5, o = some (excClassObj nm q C N bs bm true sn sub ab col dd k0 k1 k2 k3 k5 "ValueError.__new__") ∧ PySem.HandSPX.refsVE bm = true := by
  unfold shapeB at h
  split at h
  · rename_i cl dd cd sl
    obtain ⟨h1, h⟩ := He.ba h
    obtain ⟨h2, h⟩ := He.ba h
    obtain ⟨h3, h⟩ := He.ba h
    obtain ⟨h4, h5⟩ := He.ba h
    obtain ⟨nm, bs, mro, ns, qn, hd, sn, sb, ab, col, del⟩ := cd
    dsimp only at h2 h3 h4
    unfold tyB at h1
    split at h1
    · have e1 := of_decide_eq_true h1
      subst e1
      unfold mroB at h2
      split at h2
      · rename_i a bm
        obtain ⟨h6, h7⟩ := He.ba h2
        have e2 := of_decide_eq_true h6
        subst e2
        subst h3
        have e4 : del = false := by cases del <;> simp_all
        subst e4
        obtain ⟨sl⟩ := sl
        change slB sl = true at h5
        unfold slB at h5
        split at h5
        · rename_i k0 k1 k2 k3 x k5
          unfold veB at h5
          split at h5
          · have e5 := of_decide_eq_true h5
            subst e5
            exact ⟨_, _, _, _, _, _, _, _, _, _, _, _, _, _, _, rfl, h7⟩
          · cases h5
        · cases h5
      · cases h2
    · cases h1
  · cases h
theorem oexB_ok {K : PySem.W.Frag} {C : Addr} (h : oexB K C = true) : OexC K C := by
  obtain ⟨h1, h⟩ := He.ba h
  obtain ⟨h2, h⟩ := He.ba h
  obtain ⟨h3, h⟩ := He.ba h
  obtain ⟨h4, h5⟩ := He.ba h
  exact ⟨shape_ok h1, He.eqO_ok h2, of_decide_eq_true h3, Option.some.inj (He.eqO_ok h4), h5⟩
end AF
/-! o[k] by an own def, a call of an own instance, items of a new dict -/
namespace AF
open PySem PySem.Spec PyProof.Rows L2
open PySem.W (Looks InstAt)
/-- C's __getitem__ is the def at f -/
structure GI (K : PySem.W.Frag) (C f : Addr) : Prop where
  nq : PySem.W.noSeq K C = true
  hs : PySem.W.findIn K (.ref C) "__getitem__" = some (some (.ref f))
  hf : PySem.W.isFn K (.ref f) = true
  hn : PySem.W.fnIn K f = true
/-- C's __call__ is the def at f -/
structure CI (K : PySem.W.Frag) (C f : Addr) : Prop where
  hs : PySem.W.findIn K (.ref C) "__call__" = some (some (.ref f))
  hf : PySem.W.isFn K (.ref f) = true
  hn : PySem.W.fnIn K f = true
def rGI (C : Addr) (sp : Sp) (E : XK) : R2 := fun x y H Q => ∃ a dx fs, x = .ref a ∧ H a = some (.ins C dx fs) ∧ sp [x, y] H Q E
section
variable {X : Cx} {k : Nat} {f C : Addr} {ps : List Str} {sp : Sp} {E : XK} {pos : Pos} {ea eb : Expr} {ta tb : TE}
theorem pe_ixo (D : Dn X.prog X.w X.K X.mg X.base k f ps sp) (B : GI X.K C f) (hr : Room (k + 1) X.A) (hx : Passes (L2.CX X.prog X.w) X E) (ha : PE X ea ta) (hb : PE X eb tb)
    (hs : ∀ v u, subscripted eb true v u = runValue (.builtin "lifetime.subscript" ⟨[v, u], []⟩) := by intro _ _; with_unfolding_all rfl) : PE X (.Subscript ea eb pos) (tOp (rGI C sp E) ta tb) := by
  obtain ⟨fd, F, b⟩ := D.ex
  refine ⟨fun pins s σ H Q I h => ?_⟩
  refine Subscript_ (binT ha hb I h fun v u s2 x y H2 I2 rx ry q => ?_)
  obtain ⟨p, dx, fs, rfl, ho, q⟩ := q
  cases rx
  obtain ⟨mA, J, _⟩ := ins_get I2.hok ho
  obtain ⟨od, J, _⟩ := J.look
  obtain ⟨m, hF⟩ := I2.fr
  have hl := F.len _ _ _ _ q
  have rv : Vals [V.ref p, y] [Value.ref p, u] := .cons rfl (.cons ry .nil)
  refine PySem.W.sub_K hF I2.ok.mod.kin J B.hs B.hn B.hf ?_ (hs _ _)
  refine wpAny_call (codeAny_mono (F.run X.A.in1 X.stack s2 H2 ⟨[.ref p, u], []⟩ [.ref p, u] [.ref p, y] Q E hr.in1 I2.env0.in1 (by
      have := b s2 [.ref p, u] I2.kIn (by simpa using hl)
      simpa using this) rv q) fun r s' hq => ?_)
  cases r with
  | error e => exact hx pins σ H2 s2 e s' I2 hq
  | ok fl =>
    cases fl with
    | ret w => exact I2.after hq
    | next => exact False.elim hq
    | brk => exact False.elim hq
    | cont => exact False.elim hq
end
/-! calls of own instances -/
section
variable {M : Model} {A : Around} {E : Value → Shared → Prop} {s : Shared} {pos : Pos} {x : Addr} {Q : Value → Shared → Prop}
theorem inst_callWith {args : List (Bool × Sem Value)} (hplain : (args.any (·.1) || ([] : List (Option Str × Sem Value)).any (·.1.isNone)) = false)
    (h : wpAny M A (evalArgs (.ref x) true args []) (fun a s₁ => Looks M s₁.heap (keeperOf (.ref x)) .caller ∧ wpAny M A (call (.ref x) a.pos a.kw) Q E s₁) E s) : wpAny M A (callWith pos (.ref x) [] args []) Q E s := by
  unfold callWith
  refine wpAny_bind (wpAny_holding (wpAny_mono h (fun a s₁ h₁ => wpAny_bind (wpAny_standAt ?_)) fun _ _ y => y))
  have L := h₁.1
  simp only [hplain]
  refine wpAny_bind (L.here ?_)
  have tail : ∀ {t : Sem Value}, wpAny M A t Q E s₁ → wpAny M A (t >>= fun r => holding [r] point >>= fun _ => pure r) Q E s₁ :=
    fun ht => wpAny_bind (wpAny_mono ht (fun r s₂ hr => wpAny_bind (wpAny_holding (wpAny_point (wpAny_pure hr)))) fun _ _ y => y)
  exact tail (wpAny_operateT h₁.2)
end
section
variable {X : Cx} {k i : Nat} {f C : Addr} {ps : List Str} {sp : Sp} {E : XK} {pos apos p : Pos} {e o : Expr} {es : List Expr} {x m : Str} {ta : TE} {t : TA}
theorem run_inst {pins : List (Addr × Obj)} {σ : L2.St} {H : Hp} {s : Shared} {Q : VK} {us : List Value} {vs : List V} {a dx : Addr} {fs : List (Str × V)} (D : Dn X.prog X.w X.K X.mg X.base k f ps sp) (c : CI X.K C f) (hr : Room k X.A)
    (hx : Passes (L2.CX X.prog X.w) X E) (I : Inv X pins σ H s) (ho : H a = some (.ins C dx fs)) (r : Vals vs us) (h : sp (.ref a :: vs) H Q E) : wpAny (model X.prog X.w) X.A (call (.ref a) us []) (EP X pins σ Q) X.xe s := by
  obtain ⟨fd, F, b⟩ := D.ex
  obtain ⟨mA, J, _⟩ := ins_get I.hok ho
  obtain ⟨od, J, _⟩ := J.look
  have rr : Vals (V.ref a :: vs) (Value.ref a :: us) := .cons rfl r
  have hl : (Value.ref a :: us).length = ps.length := by rw [← rr.length]; exact F.len _ _ _ _ h
  refine wpAny_call (PySem.W.kco_code I.kIn J rfl c.hs c.hf c.hn (codeAny_mono (F.run X.A X.stack s H ⟨.ref a :: us, []⟩ (.ref a :: us) (.ref a :: vs) Q E hr I.env0 (by
      have := b s (.ref a :: us) I.kIn (by simpa using hl)
      simpa using this) rr h) fun r s' hq => ?_))
  cases r with
  | error e => exact hx pins σ H s e s' I hq
  | ok fl =>
    cases fl with
    | ret u => exact I.after hq
    | next => exact False.elim hq
    | brk => exact False.elim hq
    | cont => exact False.elim hq
theorem inst_keeper {pins : List (Addr × Obj)} {σ : L2.St} {H : Hp} {s : Shared} {M : Model} {a dx : Addr} {fs : List (Str × V)} (I : Inv X pins σ H s) (ho : H a = some (.ins C dx fs)) : Looks M s.heap (keeperOf (.ref a)) .caller := by
  obtain ⟨mA, J, _⟩ := ins_get I.hok ho
  obtain ⟨od, J, _⟩ := J.look
  exact PySem.W.kco_keeper J rfl
/-- an instance is called -/
def kCI (C : Addr) (sp : Sp) (E : XK) (t : TA) (σ : L2.St) (Q : VK) (x : V) (H : Hp) : Prop := ∃ a, x = .ref a ∧ t σ H fun vs H2 => (∃ dx fs, H2 a = some (.ins C dx fs)) ∧ sp (.ref a :: vs) H2 Q E
def tCI (C : Addr) (sp : Sp) (E : XK) (ta : TE) (t : TA) : TE := fun σ H Q => ta σ H (kCI C sp E t σ Q)
theorem inst_go {pins : List (Addr × Obj)} {σ : L2.St} {H : Hp} {s : Shared} {Q : VK} {a : Addr} (D : Dn X.prog X.w X.K X.mg X.base k f ps sp) (c : CI X.K C f) (hr : Room k X.A) (hx : Passes (L2.CX X.prog X.w) X E) (ha : PA X (e :: es) t) (I : Inv X pins σ H s)
    (hst : starEach (e :: es) X.env = (false, eval e X.env) :: starEach es X.env) (hpl : (backTo pos (starEach es X.env)).any (·.1) = false)
    (q : t σ H fun vs H2 => (∃ dx fs, H2 a = some (.ins C dx fs)) ∧ sp (.ref a :: vs) H2 Q E) :
    wpAny (model X.prog X.w) X.A (callWith pos (.ref a) [] (backTo pos (starEach (e :: es) X.env)) []) (EP X pins σ Q) X.xe s := by
  have hs : wpAny (model X.prog X.w) X.A (spliced (backTo pos (starEach (e :: es) X.env))) (fun us s1 => Looks (model X.prog X.w) s1.heap (keeperOf (.ref a)) .caller ∧ wpAny (model X.prog X.w) X.A (call (.ref a) us []) (EP X pins σ Q) X.xe s1) X.xe s :=
    thn (ha.run pos pins s σ H _ I q) fun us s1 ⟨vs, H2, I2, r, ⟨dx, fs, ho⟩, q2⟩ => ⟨inst_keeper I2 ho, run_inst D c hr hx I2 ho r q2⟩
  rw [hst] at hs ⊢
  exact inst_callWith (by show ((false || (backTo pos (starEach es X.env)).any (·.1)) || false) = false; rw [hpl]; rfl) (Calls.evalArgs_plain hs)
theorem pe_ci (D : Dn X.prog X.w X.K X.mg X.base k f ps sp) (c : CI X.K C f) (hr : Room k X.A) (hx : Passes (L2.CX X.prog X.w) X E) (he : PE X (.Name x p) ta) (ha : PA X (e :: es) t)
    (hst : starEach (e :: es) X.env = (false, eval e X.env) :: starEach es X.env := by rfl) (hpl : (backTo pos (starEach es X.env)).any (·.1) = false := by rfl) : PE X (.Call (.Name x p) (e :: es) [] pos) (tCI C sp E ta t) := by
  refine ⟨fun pins s σ H Q I h => ?_⟩
  refine wpAny_Call_Name_kw (thn (he.run pins s σ H _ I h) fun u s1 ⟨y, H1, I1, r1, a, ey, q1⟩ => ?_)
  subst ey
  cases r1
  exact inst_go D c hr hx ha I1 hst hpl q1
/-- .. that is a field -/
def kCF (m : Str) (C : Addr) (sp : Sp) (E : XK) (t : TA) (σ : L2.St) (Q : VK) (C1 : Addr) (x : V) (H : Hp) : Prop := ∃ b dx fs v, x = .ref b ∧ H b = some (.ins C1 dx fs) ∧ fs.lookup m = some v ∧ kCI C sp E t σ Q v H
def tCF (m : Str) (C1 C : Addr) (sp : Sp) (E : XK) (ta : TE) (t : TA) : TE := fun σ H Q => ta σ H (kCF m C sp E t σ Q C1)
theorem pe_cf {pl : Sem Bool} {C1 : Addr} (D : Dn X.prog X.w X.K X.mg X.base k f ps sp) (c : CI X.K C f) (hr : Room k X.A) (hx : Passes (L2.CX X.prog X.w) X E) (c1 : Cls X.K C1) (n1 : NoAttr X.K C1 m) (he : PE X o ta) (ha : PA X (e :: es) t)
    (hst : starEach (e :: es) X.env = (false, eval e X.env) :: starEach es X.env := by rfl) (hpl : (backTo pos (starEach es X.env)).any (·.1) = false := by rfl)
    (ht : eval (.Call (.Attribute o m apos) (e :: es) [] pos) X.env = (do
      let ov ← eval o X.env
      standAt apos.atName
      let (f, first) ← holding [ov] (getMethod ov m pl)
      callWith pos f first (backTo pos (starEach (e :: es) X.env)) (backToKw pos (keywordEach [] X.env))) := by rfl) : PE X (.Call (.Attribute o m apos) (e :: es) [] pos) (tCF m C1 C sp E ta t) := by
  refine ⟨fun pins s σ H Q I h => ?_⟩
  refine PySem.W.methodCall_KW (pl := pl) (thn (he.run pins s σ H _ I h) fun u s1 ⟨y, H1, I1, ry, b, dx, fs, v, ey, ho, hl, q⟩ => ?_) ht
  subst ey
  cases ry
  refine getmeth_fld I1 ho c1 n1 hl fun u s2 I2 rv => ?_
  obtain ⟨a, ev, q⟩ := q
  subst ev
  cases rv
  exact inst_go D c hr hx ha I2 hst hpl q
section
variable {σ : L2.St} {H : Hp} {Q : VK} {a b dx C1 : Addr} {fs : List (Str × V)} {v : V}
instance : Step (tCI C sp E ta t σ H Q) (ta σ H (kCI C sp E t σ Q)) := ⟨fun h => h⟩
instance : Step (tCF m C1 C sp E ta t σ H Q) (ta σ H (kCF m C sp E t σ Q C1)) := ⟨fun h => h⟩
theorem g_kci (q : t σ H fun vs H2 => (∃ dx fs, H2 a = some (.ins C dx fs)) ∧ sp (.ref a :: vs) H2 Q E) : kCI C sp E t σ Q (.ref a) H := ⟨a, rfl, q⟩
theorem g_kcf (ho : H b = some (.ins C1 dx fs)) (hl : fs.lookup m = some v) (q : kCI C sp E t σ Q v H) : kCF m C sp E t σ Q C1 (.ref b) H := ⟨b, dx, fs, v, rfl, ho, hl, q⟩
end
end
/-! the items of a dict that is looked at and not written any more -/
def kLk (Q : VK) (x : V) (H : Hp) : Prop := ∃ d kvs, x = .ref d ∧ H d = some (.dK kvs) ∧ ∀ od, Q (.ref d) (upd H d (.frz od (.dK kvs)))
def tLk (td : TE) : TE := fun σ H Q => td σ H (kLk Q)
section
variable {X : Cx} {e : Expr} {td : TE}
theorem pe_lk (h : PE X e td) : PE X e (tLk td) := by
  refine ⟨fun pins s σ H Q I hw => ?_⟩
  refine thn (h.run pins s σ H _ I hw) fun v s1 ⟨x, H1, I1, r, d, kvs, ex, hd, q⟩ => ?_
  subst ex
  obtain ⟨od, I2⟩ := I1.lock hd True.intro
  exact ⟨_, _, I2, r, q od⟩
theorem g_lk {H0 H : Hp} {M : Addr → Prop} {l : Obj → List Ent} {l0 : List Ent} {d : Addr} {kvs : List (Key × V)} {Q : VK} (S : Sh H0 M H l0) (r : ∀ od, Rep l0 d (.dK kvs) (.frz od (.dK kvs)) (l od)) (q : ∀ od H', Sh H0 M H' (l od) → Q (.ref d) H') : kLk Q (.ref d) H :=
  ⟨d, kvs, rfl, S.has _ (r ⟨.type "dict", none, .plain, #[]⟩).mem, fun od => q od _ (S.put (r od))⟩
instance {σ : L2.St} {H : Hp} {Q : VK} : Step (tLk td σ H Q) (td σ H (kLk Q)) := ⟨fun h => h⟩
/-- .. by the steps: d stays so, item by item -/
def EachI (g : TG) (tb : TS) (D : Ends) (d : Addr) (u : HO) : List (Key × V) → L2.St → Hp → Prop
  | [] => fun σ H => H d = some u ∧ D.nx σ H
  | (k, v) :: r => fun σ H => H d = some u ∧ ∀ T, H T = none → g (.ref T) σ (upd H T (.tup [kV k, v])) fun σ2 H2 => tb { D with nx := EachI g tb D d u r, ct := EachI g tb D d u r, bk := D.nx } σ2 H2
theorem eachI_frz {g : TG} {tb : TS} {D : Ends} {d : Addr} {u : HO} {σ : L2.St} {H : Hp} : ∀ {l : List (Key × V)}, EachI g tb D d u l σ H → H d = some u
  | [], h => h.1
  | _ :: _, h => h.1
def kIt (g : TG) (tb : TS) (D : Ends) (σ : L2.St) (x : V) (H1 : Hp) : Prop := ∃ d o kvs, x = .ref d ∧ H1 d = some (.frz o (.dK kvs)) ∧ ∃ W : Nat → Nat → L2.St → Hp → Prop, (∃ m, W 0 m σ H1) ∧ ∀ i m σ H, W i m σ H →
  ((Iti d o kvs).stop i H ∧ D.nx σ H) ∨ ((Iti d o kvs).go i H ∧ ∃ N : L2.St → Hp → Prop, (∀ σ' H', N σ' H' → ∃ m', m' < m ∧ W (i + 1) m' σ' H') ∧ ∀ x H', (Iti d o kvs).yld i H x H' → g x σ H' fun σ2 H2 => tb { D with nx := N, ct := N, bk := D.nx } σ2 H2)
instance {g : TG} {tb : TS} {D : Ends} {σ : L2.St} {H : Hp} : Step (tFor (iItems (tLk td)) g tb D σ H) (td σ H (kLk (kIt g tb D σ))) := ⟨fun h => h⟩
theorem g_it {g : TG} {tb : TS} {D : Ends} {σ : L2.St} {H : Hp} {d : Addr} {o : Obj} {kvs : List (Key × V)} (hd : H d = some (.frz o (.dK kvs))) (q : EachI g tb D d (.frz o (.dK kvs)) kvs σ H) : kIt g tb D σ (.ref d) H := by
  refine ⟨d, o, kvs, rfl, hd, fun i m σ H => m = kvs.length - i ∧ i ≤ kvs.length ∧ EachI g tb D d (.frz o (.dK kvs)) (kvs.drop i) σ H, ⟨kvs.length, by simp, Nat.zero_le _, q⟩, ?_⟩
  rintro i m σ H ⟨rfl, hi, p⟩
  have hf := eachI_frz p
  by_cases hlt : i < kvs.length
  · refine .inr ⟨⟨hf, hlt⟩, fun σ' H' => EachI g tb D d (.frz o (.dK kvs)) (kvs.drop (i + 1)) σ' H', fun σ' H' p' => ⟨kvs.length - (i + 1), by omega, rfl, hlt, p'⟩, fun x H' y => ?_⟩
    obtain ⟨T, k, v, e, rfl, hT, rfl⟩ := y
    obtain ⟨hi', e2⟩ := List.getElem?_eq_some_iff.mp e
    rw [List.drop_eq_getElem_cons hlt, e2] at p
    exact p.2 T hT
  · have e : i = kvs.length := by omega
    subst e
    rw [List.drop_length] at p
    exact .inl ⟨⟨hf, Nat.le_refl _⟩, p.2⟩
theorem g_each1 {g : TG} {tb : TS} {nx bk ct : L2.St → Hp → Prop} {rt : VK} {σ : L2.St} {H0 H : Hp} {M : Addr → Prop} {l : List Ent} {d : Addr} {u : HO} {k : Key} {v : V} {r : List (Key × V)} (S : Sh H0 M H l) (hd : H d = some u)
    (q : ∀ T H', Sh H0 M H' ((T, .tup [kV k, v], true) :: l) → g (.ref T) σ H' fun σ2 H2 => tb ⟨EachI g tb ⟨nx, rt, bk, ct⟩ d u r, rt, nx, EachI g tb ⟨nx, rt, bk, ct⟩ d u r⟩ σ2 H2) : EachI g tb ⟨nx, rt, bk, ct⟩ d u ((k, v) :: r) σ H :=
  ⟨hd, fun T hT => q T _ (S.new hT)⟩
theorem g_each0 {g : TG} {tb : TS} {nx bk ct : L2.St → Hp → Prop} {rt : VK} {σ : L2.St} {H : Hp} {d : Addr} {u : HO} (hd : H d = some u) (q : nx σ H) : EachI g tb ⟨nx, rt, bk, ct⟩ d u [] σ H := ⟨hd, q⟩
theorem g_tup2 {σ σ1 σ2 : L2.St} {H : Hp} {K : PySem.W.Frag} {p : Addr} {x y : V} {i j : Nat} {P : L2.St → Hp → Prop} [h1 : SetI σ i x σ1] [h2 : SetI σ1 j y σ2] (h : H p = some (.tup [x, y])) (q : P σ2 H) :
    gTup K 2 (gCons (gName i) (gCons (gName j) gNil)) (.ref p) σ H P := by
  refine ⟨p, _, rfl, SqT.of h, rfl, x, _, rfl, y, _, rfl, rfl, ?_⟩
  rw [h1.eq, h2.eq]
  exact q
/-! {k: v for a, b in d.items()} of a dict that is looked at alone -/
def EachC (g : TG) (tt : TT) (tk tv : TE) (vs : List Nat) (σ : L2.St) (Q : VK) (D d : Addr) (u : HO) : List (Key × V) → Hp → Prop
  | [] => fun H => H d = some u ∧ Q (.ref D) H
  | (k, v) :: r => fun H => H d = some u ∧ ∀ T, H T = none → g (.ref T) (wipe σ vs) (upd H T (.tup [kV k, v])) fun σ2 H2 => wipe σ2 vs = wipe σ vs ∧ tt σ2 H2 fun b H3 =>
      if b = true then tk σ2 H3 fun y H4 => tv σ2 H4 fun z H5 => ∃ kvs k, y = kV k ∧ H5 D = some (.dK kvs) ∧ kvs.length < sizeLine ∧ EachC g tt tk tv vs σ Q D d u r (upd H5 D (.dK (putK kvs k z))) else EachC g tt tk tv vs σ Q D d u r H3
theorem eachC_frz {g : TG} {tt : TT} {tk tv : TE} {vs : List Nat} {σ : L2.St} {Q : VK} {D d : Addr} {u : HO} {H : Hp} : ∀ {l : List (Key × V)}, EachC g tt tk tv vs σ Q D d u l H → H d = some u
  | [], h => h.1
  | _ :: _, h => h.1
def kDc (g : TG) (tt : TT) (tk tv : TE) (vs : List Nat) (σ : L2.St) (Q : VK) (x : V) (H1 : Hp) : Prop := ∃ d o kvs, x = .ref d ∧ H1 d = some (.frz o (.dK kvs)) ∧ ∀ D, H1 D = none → ∃ W : Nat → Nat → Hp → Prop, (∃ m, W 0 m (upd H1 D (.dK []))) ∧ ∀ i m H, W i m H →
  ((Iti d o kvs).stop i H ∧ Q (.ref D) H) ∨ ((Iti d o kvs).go i H ∧ ∃ Nx : Hp → Prop, (∀ H', Nx H' → ∃ m', m' < m ∧ W (i + 1) m' H') ∧ ∀ x H', (Iti d o kvs).yld i H x H' → g x (wipe σ vs) H' fun σ2 H2 => wipe σ2 vs = wipe σ vs ∧ tt σ2 H2 fun b H3 =>
    if b = true then tk σ2 H3 fun y H4 => tv σ2 H4 fun z H5 => ∃ kvs k, y = kV k ∧ H5 D = some (.dK kvs) ∧ kvs.length < sizeLine ∧ Nx (upd H5 D (.dK (putK kvs k z))) else Nx H3)
instance {g : TG} {tt : TT} {tk tv : TE} {vs : List Nat} {σ : L2.St} {H : Hp} {Q : VK} : Step (tDc (iItems (tLk td)) g tt tk tv vs σ H Q) (td σ H (kLk (kDc g tt tk tv vs σ Q))) := ⟨fun h => h⟩
theorem g_dc {g : TG} {tt : TT} {tk tv : TE} {vs : List Nat} {σ : L2.St} {H0 H : Hp} {M : Addr → Prop} {l : List Ent} {Q : VK} {d : Addr} {o : Obj} {kvs : List (Key × V)} (S : Sh H0 M H l) (hd : H d = some (.frz o (.dK kvs)))
    (q : ∀ D H', Sh H0 M H' ((D, .dK [], true) :: l) → EachC g tt tk tv vs σ Q D d (.frz o (.dK kvs)) kvs H') : kDc g tt tk tv vs σ Q (.ref d) H := by
  refine ⟨d, o, kvs, rfl, hd, fun D hD => ⟨fun i m H => m = kvs.length - i ∧ i ≤ kvs.length ∧ EachC g tt tk tv vs σ Q D d (.frz o (.dK kvs)) (kvs.drop i) H, ⟨kvs.length, by simp, Nat.zero_le _, q D _ (S.new hD)⟩, ?_⟩⟩
  rintro i m H ⟨rfl, hi, p⟩
  have hf := eachC_frz p
  by_cases hlt : i < kvs.length
  · refine .inr ⟨⟨hf, hlt⟩, fun H' => EachC g tt tk tv vs σ Q D d (.frz o (.dK kvs)) (kvs.drop (i + 1)) H', fun H' p' => ⟨kvs.length - (i + 1), by omega, rfl, hlt, p'⟩, fun x H' y => ?_⟩
    obtain ⟨T, k, v, e, rfl, hT, rfl⟩ := y
    obtain ⟨hi', e2⟩ := List.getElem?_eq_some_iff.mp e
    rw [List.drop_eq_getElem_cons hlt, e2] at p
    exact p.2 T hT
  · have e : i = kvs.length := by omega
    subst e
    rw [List.drop_length] at p
    exact .inl ⟨⟨hf, Nat.le_refl _⟩, p.2⟩
class ClrI (σ : L2.St) (i : Nat) (σ' : outParam L2.St) : Prop where
  eq : σ.set i none = σ'
instance {o : Option V} {r : L2.St} : ClrI (o :: r) 0 (none :: r) := ⟨rfl⟩
instance {o : Option V} {r r' : L2.St} {i : Nat} [h : ClrI r i r'] : ClrI (o :: r) (i + 1) (o :: r') := ⟨by rw [List.set_cons_succ, h.eq]⟩
/-- one turn, its two names in slots i and j -/
def kPut (D : Addr) (P : Hp → Prop) (y : V) (z : V) (H5 : Hp) : Prop := ∃ kvs k, y = kV k ∧ H5 D = some (.dK kvs) ∧ kvs.length < sizeLine ∧ P (upd H5 D (.dK (putK kvs k z)))
theorem g_eachC1 {K : PySem.W.Frag} {i j : Nat} {tk tv : TE} {σ σa σb σ1 σ2 : L2.St} {H0 H : Hp} {M : Addr → Prop} {l : List Ent} {Q : VK} {D d : Addr} {u : HO} {k : Key} {v : V} {r : List (Key × V)} [w1 : ClrI σ j σa] [w2 : ClrI σa i σb] [h1 : SetI σb i (kV k) σ1] [h2 : SetI σ1 j v σ2] (hw : wipe σ2 [i, j] = wipe σ [i, j])
    (S : Sh H0 M H l) (hd : H d = some u)
    (q : ∀ T H', Sh H0 M H' ((T, .tup [kV k, v], true) :: l) → tk σ2 H' fun y H4 => tv σ2 H4 (kPut D (EachC (gTup K 2 (gCons (gName i) (gCons (gName j) gNil))) tYes tk tv [i, j] σ Q D d u r) y)) :
    EachC (gTup K 2 (gCons (gName i) (gCons (gName j) gNil))) tYes tk tv [i, j] σ Q D d u ((k, v) :: r) H := by
  have e : wipe σ [i, j] = σb := by
    show (σ.set j none).set i none = σb
    rw [w1.eq, w2.eq]
  refine ⟨hd, fun T hT => ?_⟩
  rw [e] at hw ⊢
  refine g_tup2 (x := kV k) (y := v) upd_same ⟨hw, ?_⟩
  exact iteT (B := EachC (gTup K 2 (gCons (gName i) (gCons (gName j) gNil))) tYes tk tv [i, j] σ Q D d u r (upd H T (.tup [kV k, v]))) (q T _ (S.new hT))
theorem g_eachC0 {g : TG} {tt : TT} {tk tv : TE} {vs : List Nat} {σ : L2.St} {Q : VK} {D d : Addr} {u : HO} {H : Hp} (hd : H d = some u) (q : Q (.ref D) H) : EachC g tt tk tv vs σ Q D d u [] H := ⟨hd, q⟩
theorem g_kput {H0 H : Hp} {M : Addr → Prop} {l l' : List Ent} {D : Addr} {P : Hp → Prop} {kvs kvs' : List (Key × V)} {s : Str} {z : V} (S : Sh H0 M H l) (r : Rep l D (.dK kvs) (.dK kvs') l') (hn : Nat.blt kvs.length 1000 = true) (e : putK kvs (.inr s) z = kvs') (q : ∀ H', Sh H0 M H' l' → P H') : kPut D P (.str s) z H := by
  subst e
  exact ⟨_, .inr s, rfl, S.has _ r.mem, Nat.lt_trans (Nat.le_of_ble_eq_true hn) (small1000 (Nat.le_refl _)), q _ (S.put r)⟩
end
/-- list(d) -/
def rListK : List V → Hp → VK → Prop := fun xs H Q => ∃ (a : Addr) (kvs : List (Key × V)), xs = [.ref a] ∧ Rd H a (.dK kvs) ∧ ∀ p, H p = none → Q (.ref p) (upd H p (.lst (kvs.map fun kv => kV kv.1)))
theorem cl_listK {X : Cx} (hc : X.calm = true) : CallR X (.type "list") rListK := call_listD hc
theorem g_listKf {H0 H : Hp} {M : Addr → Prop} {l : List Ent} {Q : VK} {a : Addr} {o : Obj} {kvs : List (Key × V)} (S : Sh H0 M H l) (h : H a = some (.frz o (.dK kvs))) (q : ∀ p H', H p = none → Sh H0 M H' ((p, .lst (kvs.map fun kv => kV kv.1), true) :: l) → Q (.ref p) H') : rListK [.ref a] H Q :=
  ⟨a, kvs, rfl, .inr ⟨o, h⟩, fun p hp => q p _ hp (S.new hp)⟩
/-- == of two dicts that are equal -/
theorem op_eqDA {X : Cx} (hu : X.A.units < cLine) : OpR X (compareOp .Eq) rEqDA := op_eq_dictA hu
theorem g_eqDA {H : Hp} {Q : VK} {a b : Addr} {ks : List (Key × V)} (ha : H a = some (.dK ks)) (hb : H b = some (.dK ks)) (hp : ∀ p ∈ ks, valV ks p.1 = some p.2 ∧ flatB p.2 = true) (q : Q (.bl true) H) : rEqDA (.ref a) (.ref b) H Q := ⟨a, b, ks, ks, rfl, rfl, ha, hb, rfl, hp, q⟩
theorem g_eqN {H : Hp} {Q : VK} (q : Q (.bl true) H) : rEq .non .non H Q := ⟨rfl, by simpa using q⟩
instance {C : Addr} {sp : Sp} {E : XK} {H : Hp} {Q : VK} {y : V} {a : Addr} : Step (rGI C sp E (.ref a) y H Q) (∃ dx fs, H a = some (.ins C dx fs) ∧ sp [.ref a, y] H Q E) := ⟨fun ⟨dx, fs, h, q⟩ => ⟨a, dx, fs, rfl, h, q⟩⟩
/-! the facts as truths -/
def giB (K : PySem.W.Frag) (C f : Addr) : Bool := PySem.W.noSeq K C && (He.eqO (PySem.W.findIn K (.ref C) "__getitem__") (some (some (.ref f))) && (PySem.W.isFn K (.ref f) && PySem.W.fnIn K f))
theorem giB_ok {K : PySem.W.Frag} {C f : Addr} (h : giB K C f = true) : GI K C f := by
  obtain ⟨h1, h⟩ := He.ba h
  obtain ⟨h2, h⟩ := He.ba h
  obtain ⟨h3, h4⟩ := He.ba h
  exact ⟨h1, He.eqO_ok h2, h3, h4⟩
def ciB (K : PySem.W.Frag) (C f : Addr) : Bool := He.eqO (PySem.W.findIn K (.ref C) "__call__") (some (some (.ref f))) && (PySem.W.isFn K (.ref f) && PySem.W.fnIn K f)
theorem ciB_ok {K : PySem.W.Frag} {C f : Addr} (h : ciB K C f = true) : CI K C f := by
  obtain ⟨h2, h⟩ := He.ba h
  obtain ⟨h3, h4⟩ := He.ba h
  exact ⟨He.eqO_ok h2, h3, h4⟩
end AF
/-! loops over a short list, small dict displays, a, b, c = x, y, z; objects made with a part of their own -/
namespace AF
open PySem PySem.Spec PyProof.Rows L2
section
variable {K : PySem.W.Frag} {H0 H H' : Hp} {M : Addr → Prop} {l l' : List Ent} {p q : Addr} {o o' o2 : HO}
/-- p is changed, q is new -/
theorem Sh.ch1n (S : Sh H0 M H l) (r : Rep l p o o' l') (c : Ch [p] H H') (h : H' p = some o') (hn : H q = none) (hq : H' q = some o2) : Sh H0 M H' ((q, o2, true) :: l') := by
  have S' := S.ch1 r c h
  refine ⟨S'.fr, fun e he => ?_, ?_, fun e he hm => ?_⟩
  · rcases List.mem_cons.mp he with h1 | h1
    · rw [h1]; exact hq
    · exact S'.has e h1
  · rw [List.map_cons, List.pairwise_cons]
    refine ⟨fun t ht _ z => ?_, S'.ap⟩
    rw [r.tags] at ht
    obtain ⟨e, he, rfl⟩ := List.mem_map.mp ht
    have z' : q = e.1 := z
    have := S.has e he
    rw [← z', hn] at this; cases this
  · rcases List.mem_cons.mp he with h1 | h1
    · rw [h1]
      by_cases k : M q
      · exact .inl k
      · refine .inr ?_
        cases e0 : H0 q with
        | none => rfl
        | some u => rw [S.fr q u e0 k] at hn; cases hn
    · exact S'.mu e h1 hm
/-- two are changed -/
theorem Sh.ch2 {l2 : List Ent} {q' : Addr} {u u' : HO} (S : Sh H0 M H l) (r : Rep l p o o' l') (r2 : Rep l' q' u u' l2) (c : Ch [p, q'] H H') (h : H' p = some o') (h2 : H' q' = some u') : Sh H0 M H' l2 :=
  (S.put r).ch1 r2 (fun b w hb hn => by
    by_cases e : b = p
    · subst e
      rw [upd_same] at hb
      rw [h, ← hb]
    · rw [upd_ne e] at hb
      exact c b w hb (by simp only [List.mem_cons, List.not_mem_nil, or_false] at hn ⊢; intro z; rcases z with z | z; exact e z; exact hn z)) h2
/-- .. and one more is new -/
theorem Sh.ch2n {l2 : List Ent} {q' n : Addr} {u u' on : HO} (S : Sh H0 M H l) (r : Rep l p o o' l') (r2 : Rep l' q' u u' l2) (c : Ch [p, q'] H H') (h : H' p = some o') (h2 : H' q' = some u') (hn : H n = none) (hq : H' n = some on) : Sh H0 M H' ((n, on, true) :: l2) := by
  have S1 := S.put r
  have ep : H p = some o := S.has _ r.mem
  have eq : upd H p o' q' = some u := S1.has _ r2.mem
  have np : n ≠ p := fun z => by rw [z, ep] at hn; cases hn
  have n1 : upd H p o' n = none := by rw [upd_ne np]; exact hn
  have nq : n ≠ q' := fun z => by rw [z, eq] at n1; cases n1
  refine (S1.put r2).add (fun b w hb _ => ?_) (by rw [upd_ne nq]; exact n1) hq
  by_cases e : b = q'
  · subst e
    rw [upd_same] at hb
    rw [h2, ← hb]
  · rw [upd_ne e] at hb
    by_cases e1 : b = p
    · subst e1
      rw [upd_same] at hb
      rw [h, ← hb]
    · rw [upd_ne e1] at hb
      exact c b w hb (by simp only [List.mem_cons, List.not_mem_nil, or_false]; intro z; rcases z with z | z; exact e1 z; exact e z)
end
/-- an object made with a part of its own -/
theorem g_kmake2 {H0 : Hp} {M : Addr → Prop} {H : Hp} {l : List Ent} {C : Addr} {sp : Sp} {E : XK} {Q : VK} {vs : List V} {fs : Addr → List (Str × V)} {o : HO} (S : Sh H0 M H l)
    (h : ∀ (x dx : Addr) (H1 : Hp) (Q' : VK), H1 x = some (.ins C dx []) → Sh H0 M H1 ((x, .ins C dx [], true) :: (dx, .own x, true) :: l) → (∀ nd H2, H1 nd = none → Ch [x] H1 H2 → H2 x = some (.ins C dx (fs nd)) → H2 nd = some o → Q' .non H2) → sp (.ref x :: vs) H1 Q' E)
    (q : ∀ x dx nd H', Sh H0 M H' ((nd, o, true) :: (x, .ins C dx (fs nd), true) :: l) → Q (.ref x) H') : kMake C sp E Q vs H := by
  intro x dx hx hd ne
  have S1 := (S.new (o := .own x) hd).new (p := x) (o := .ins C dx []) (by rw [upd_ne (Ne.symm ne)]; exact hx)
  refine h x dx _ _ (S1.has_ .here) S1 fun nd H2 hn c h2 h3 => ⟨rfl, q x dx nd H2 ?_⟩
  have S2 := S1.ch1n (q := nd) .here c h2 hn h3
  refine ⟨S2.fr, fun e he => ?_, ?_, fun e he hm => ?_⟩
  · rcases List.mem_cons.mp he with z | z
    · exact S2.has e (z ▸ List.mem_cons_self)
    · rcases List.mem_cons.mp z with z | z
      · exact S2.has e (z ▸ List.mem_cons_of_mem _ List.mem_cons_self)
      · exact S2.has e (List.mem_cons_of_mem _ (List.mem_cons_of_mem _ (List.mem_cons_of_mem _ z)))
  · have ap := S2.ap
    simp only [List.map_cons, List.pairwise_cons] at ap ⊢
    refine ⟨fun t ht => ap.1 t ?_, fun t ht => ap.2.1 t (List.mem_cons_of_mem _ ht), ap.2.2.2⟩
    rcases List.mem_cons.mp ht with z | z
    · rw [z]; exact List.mem_cons_self
    · exact List.mem_cons_of_mem _ (List.mem_cons_of_mem _ z)
  · rcases List.mem_cons.mp he with z | z
    · exact S2.mu e (z ▸ List.mem_cons_self) hm
    · rcases List.mem_cons.mp z with z | z
      · exact S2.mu e (z ▸ List.mem_cons_of_mem _ List.mem_cons_self) hm
      · exact S2.mu e (List.mem_cons_of_mem _ (List.mem_cons_of_mem _ (List.mem_cons_of_mem _ z))) hm
/-! a short list, item by item -/
def EachL (g : TG) (tb : TS) (D : Ends) (a : Addr) (u : HO) : List V → L2.St → Hp → Prop
  | [] => fun σ H => H a = some u ∧ D.nx σ H
  | x :: r => fun σ H => H a = some u ∧ g x σ H fun σ2 H2 => tb { D with nx := EachL g tb D a u r, ct := EachL g tb D a u r, bk := D.nx } σ2 H2
theorem eachL_at {g : TG} {tb : TS} {D : Ends} {d : Addr} {u : HO} {σ : L2.St} {H : Hp} : ∀ {l : List V}, EachL g tb D d u l σ H → H d = some u
  | [], h => h.1
  | _ :: _, h => h.1
def kLs (K : PySem.W.Frag) (g : TG) (tb : TS) (D : Ends) (σ : L2.St) (x : V) (H1 : Hp) : Prop := ∃ a, x = .ref a ∧ (∃ xs, SqL K H1 a xs) ∧ ∃ W : Nat → Nat → L2.St → Hp → Prop, (∃ m, W 0 m σ H1) ∧ ∀ i m σ H, W i m σ H →
  ((Itl K a).stop i H ∧ D.nx σ H) ∨ ((Itl K a).go i H ∧ ∃ N : L2.St → Hp → Prop, (∀ σ' H', N σ' H' → ∃ m', m' < m ∧ W (i + 1) m' σ' H') ∧ ∀ x H', (Itl K a).yld i H x H' → g x σ H' fun σ2 H2 => tb { D with nx := N, ct := N, bk := D.nx } σ2 H2)
section
variable {K : PySem.W.Frag} {td : TE}
instance {g : TG} {tb : TS} {D : Ends} {σ : L2.St} {H : Hp} : Step (tFor (iList K td) g tb D σ H) (td σ H (kLs K g tb D σ)) := ⟨fun h => h⟩
theorem g_ls {g : TG} {tb : TS} {D : Ends} {σ : L2.St} {H : Hp} {a : Addr} {xs : List V} (hd : H a = some (.lst xs)) (q : EachL g tb D a (.lst xs) xs σ H) : kLs K g tb D σ (.ref a) H := by
  refine ⟨a, rfl, ⟨xs, SqL.of hd⟩, for_list (K := K) (xs := xs) (fun i σ H => EachL g tb D a (.lst xs) (xs.drop i) σ H) q (fun _ _ _ _ p => SqL.of (eachL_at p)) (fun i x σ H hx p => ?_) fun σ H p => ?_⟩
  · obtain ⟨hi, e⟩ := List.getElem?_eq_some_iff.mp hx
    rw [List.drop_eq_getElem_cons hi, e] at p
    exact p.2
  · rw [List.drop_length] at p
    exact p.2
theorem g_eachl1 {g : TG} {tb : TS} {nx bk ct : L2.St → Hp → Prop} {rt : VK} {σ : L2.St} {H : Hp} {d : Addr} {u : HO} {x : V} {r : List V} (hd : H d = some u)
    (q : g x σ H fun σ2 H2 => tb ⟨EachL g tb ⟨nx, rt, bk, ct⟩ d u r, rt, nx, EachL g tb ⟨nx, rt, bk, ct⟩ d u r⟩ σ2 H2) : EachL g tb ⟨nx, rt, bk, ct⟩ d u (x :: r) σ H := ⟨hd, q⟩
theorem g_eachl0 {g : TG} {tb : TS} {nx bk ct : L2.St → Hp → Prop} {rt : VK} {σ : L2.St} {H : Hp} {d : Addr} {u : HO} (hd : H d = some u) (q : nx σ H) : EachL g tb ⟨nx, rt, bk, ct⟩ d u [] σ H := ⟨hd, q⟩
end
/-! {k: v} -/
theorem g_disp1 {H0 H : Hp} {M : Addr → Prop} {l : List Ent} {σ : L2.St} {Q : VK} {s : Str} {v : V} (S : Sh H0 M H l) (q : ∀ p H', H p = none → Sh H0 M H' ((p, .dK [(.inr s, v)], true) :: l) → Q (.ref p) H') : tDisp [(tC (.str s), tC v)] σ H Q := by
  intro p hp
  refine ⟨upd_same, [(.inr s, v)], rfl, Nat.le_of_ble_eq_true rfl, ?_⟩
  refine q p _ hp ?_
  have S1 := S.new (p := p) (o := .dK []) hp
  exact S1.put .here
/-! a, b, c = x, y, z -/
def kPar3 (nx : L2.St → Hp → Prop) (σ : L2.St) (i j k : Nat) (vs : List V) (H : Hp) : Prop := ∃ u v w, vs = [u, v, w] ∧ nx (((σ.set i (some u)).set j (some v)).set k (some w)) H
section
variable {σ σ1 σ2 σ3 : L2.St} {H : Hp} {nx : L2.St → Hp → Prop} {rt : VK} {bk ct : L2.St → Hp → Prop} {i j k : Nat} {tr : TA} {x y z : V}
instance : Step (tPar3 i j k tr ⟨nx, rt, bk, ct⟩ σ H) (tr σ H (kPar3 nx σ i j k)) := ⟨fun h => h⟩
instance [h : SetI σ i x σ1] [h2 : SetI σ1 j y σ2] [h3 : SetI σ2 k z σ3] : Step (kPar3 nx σ i j k [x, y, z] H) (nx σ3 H) := ⟨fun q => ⟨x, y, z, rfl, by rw [h.eq, h2.eq, h3.eq]; exact q⟩⟩
end
/-! deep == and != of unlike things -/
section
variable {H : Hp} {Q : VK} {x y : V} {K : PySem.W.Frag} {d e : PyData} {r : Bool}
theorem g_eqD2 (hx : Dp K H x d) (hy : Dp K H y e) (sd : SeqAt.shaped d = true) (se : SeqAt.shaped e = true) (hr : PyData.eqv d e = r) (q : Q (.bl r) H) : rEqD K x y H Q := ⟨d, e, hx, hy, sd, se, by rw [hr]; exact q⟩
theorem g_neD2 (hx : Dp K H x d) (hy : Dp K H y e) (sd : SeqAt.shaped d = true) (se : SeqAt.shaped e = true) (hr : PyData.eqv d e = r) (q : Q (.bl (!r)) H) : rNeD K x y H Q := ⟨d, e, hx, hy, sd, se, by rw [hr]; exact q⟩
theorem dp_str {x : Str} : Dp K H (.str x) (.str x) := .str x
end
/-! a place of a list -/
theorem g_ixW {H : Hp} {Q : VK} {K : PySem.W.Frag} {p : Addr} {xs : List V} {i : Int} (h : H p = some (.lst xs)) (h0 : 0 ≤ i) (h1 : i < xs.length) (q : ∀ v, v ∈ xs → Q v H) : rIxL K (.ref p) (.int i) H Q := by
  obtain ⟨v, hv, e⟩ := atI_some h0 h1
  exact ⟨p, xs, i, v, rfl, rfl, SqL.of h, e, q v hv⟩
/-- a helper that draws one item of a list -/
def spPick : Sp := fun vs H Q _ => ∃ (a p : Addr) (n s : Int) (xs : List V), vs = [.ref a, .ref p] ∧ H a = some (.lst [.int n, .int s]) ∧ Sd n s ∧ H p = some (.lst xs) ∧ 1 ≤ xs.length ∧ xs.length ≤ 1000 ∧ p ≠ a ∧
  ∀ (v : V) (n' s' : Int) (H' : Hp), Ch [a] H H' → H' a = some (.lst [.int n', .int s']) → v ∈ xs → Sd n' s' → Q v H'
theorem use_pick {H0 : Hp} {M : Addr → Prop} {H : Hp} {l : List Ent} {l' : Int → Int → List Ent} {a p : Addr} {n s : Int} {xs : List V} {Q : VK} {E : XK} (S : Sh H0 M H l) (r : ∀ n' s', Rep l a (.lst [.int n, .int s]) (.lst [.int n', .int s']) (l' n' s')) (hs : Sd n s)
    (o : On l p (.lst xs)) (h1 : 1 ≤ xs.length) (h2 : xs.length ≤ 1000) (hne : p ≠ a) (q : ∀ v n' s' H', v ∈ xs → Sd n' s' → Sh H0 M H' (l' n' s') → Q v H') : spPick [.ref a, .ref p] H Q E :=
  ⟨a, p, n, s, xs, rfl, S.has _ (r n s).mem, hs, S.has_ o, h1, h2, hne, fun v n' s' H' c h p1 p3 => q v n' s' H' p1 p3 (S.ch1 (r n' s') c h)⟩
end AF
/-! comprehensions and loops over lists, tuples, keys, item by item; dicts of numbers compared; displays *-/
namespace AF
open PySem PySem.Spec PyProof.Rows L2
/-! a comprehension over a list or tuple that stays, item by item -/
def EachQ (g : TG) (tt : TT) (te : TE) (vs : List Nat) (σ : L2.St) (Q : VK) (D : Addr) (In : Hp → Prop) : List V → Hp → Prop
  | [] => fun H => In H ∧ Q (.ref D) H
  | x :: r => fun H => In H ∧ g x (wipe σ vs) H fun σ2 H2 => wipe σ2 vs = wipe σ vs ∧ tt σ2 H2 fun b H3 => if b = true then te σ2 H3 (kEl D (EachQ g tt te vs σ Q D In r)) else EachQ g tt te vs σ Q D In r H3
section
variable {K : PySem.W.Frag} {td : TE} {g : TG} {tt : TT} {te : TE} {vs : List Nat} {σ σ' : L2.St} {Q : VK} {H0 H : Hp} {M : Addr → Prop} {l l' : List Ent} {D a : Addr} {In : Hp → Prop} {xs r : List V} {x : V}
theorem eachQ_in : ∀ {l : List V} {H : Hp}, EachQ g tt te vs σ Q D In l H → In H
  | [], _, h => h.1
  | _ :: _, _, h => h.1
def kLcL (K : PySem.W.Frag) (g : TG) (tt : TT) (te : TE) (vs : List Nat) (σ : L2.St) (Q : VK) (x : V) (H1 : Hp) : Prop := ∃ a, x = .ref a ∧ (∃ xs, SqL K H1 a xs) ∧ ∀ D, H1 D = none → ∃ W : Nat → Nat → Hp → Prop, (∃ m, W 0 m (upd H1 D (.lst []))) ∧ ∀ i m H, W i m H →
  ((Itl K a).stop i H ∧ Q (.ref D) H) ∨ ((Itl K a).go i H ∧ ∃ Nx : Hp → Prop, (∀ H', Nx H' → ∃ m', m' < m ∧ W (i + 1) m' H') ∧ ∀ x H', (Itl K a).yld i H x H' → g x (wipe σ vs) H' fun σ2 H2 => wipe σ2 vs = wipe σ vs ∧ tt σ2 H2 fun b H3 =>
    if b = true then te σ2 H3 fun y H4 => ∃ acc, H4 D = some (.lst acc) ∧ acc.length < sizeLine ∧ Nx (upd H4 D (.lst (acc ++ [y]))) else Nx H3)
def kLcT (K : PySem.W.Frag) (g : TG) (tt : TT) (te : TE) (vs : List Nat) (σ : L2.St) (Q : VK) (x : V) (H1 : Hp) : Prop := ∃ a, x = .ref a ∧ (∃ xs, SqT K H1 a xs) ∧ ∀ D, H1 D = none → ∃ W : Nat → Nat → Hp → Prop, (∃ m, W 0 m (upd H1 D (.lst []))) ∧ ∀ i m H, W i m H →
  ((Itt K a).stop i H ∧ Q (.ref D) H) ∨ ((Itt K a).go i H ∧ ∃ Nx : Hp → Prop, (∀ H', Nx H' → ∃ m', m' < m ∧ W (i + 1) m' H') ∧ ∀ x H', (Itt K a).yld i H x H' → g x (wipe σ vs) H' fun σ2 H2 => wipe σ2 vs = wipe σ vs ∧ tt σ2 H2 fun b H3 =>
    if b = true then te σ2 H3 fun y H4 => ∃ acc, H4 D = some (.lst acc) ∧ acc.length < sizeLine ∧ Nx (upd H4 D (.lst (acc ++ [y]))) else Nx H3)
instance : Step (tLc (iList K td) g tt te vs σ H Q) (td σ H (kLcL K g tt te vs σ Q)) := ⟨fun h => h⟩
instance : Step (tLc (iTup K td) g tt te vs σ H Q) (td σ H (kLcT K g tt te vs σ Q)) := ⟨fun h => h⟩
theorem g_lcL (In : Hp → Prop) (hi : ∀ H, In H → SqL K H a xs) (h0 : SqL K H a xs) (S : Sh H0 M H l) (q : ∀ D H', H D = none → Sh H0 M H' ((D, .lst [], true) :: l) → EachQ g tt te vs σ Q D In xs H') : kLcL K g tt te vs σ Q (.ref a) H :=
  ⟨a, rfl, ⟨xs, h0⟩, fun D hD => lc_list (K := K) (xs := xs) (fun i H => EachQ g tt te vs σ Q D In (xs.drop i) H) (q D _ hD (S.new hD)) (fun _ _ _ p => hi _ (eachQ_in p)) (fun i x H hx p => by
    obtain ⟨hlt, e⟩ := List.getElem?_eq_some_iff.mp hx
    rw [List.drop_eq_getElem_cons hlt, e] at p
    exact p.2) fun H p => by
      rw [List.drop_length] at p
      exact p.2⟩
theorem g_lcT (In : Hp → Prop) (hi : ∀ H, In H → SqT K H a xs) (h0 : SqT K H a xs) (S : Sh H0 M H l) (q : ∀ D H', H D = none → Sh H0 M H' ((D, .lst [], true) :: l) → EachQ g tt te vs σ Q D In xs H') : kLcT K g tt te vs σ Q (.ref a) H :=
  ⟨a, rfl, ⟨xs, h0⟩, fun D hD => lc_tup (K := K) (xs := xs) (fun i H => EachQ g tt te vs σ Q D In (xs.drop i) H) (q D _ hD (S.new hD)) (fun _ _ _ p => hi _ (eachQ_in p)) (fun i x H hx p => by
    obtain ⟨hlt, e⟩ := List.getElem?_eq_some_iff.mp hx
    rw [List.drop_eq_getElem_cons hlt, e] at p
    exact p.2) fun H p => by
      rw [List.drop_length] at p
      exact p.2⟩
/-- one item, its name in slot k, all taken -/
theorem g_eachQ1 {k : Nat} {σa σ1 : L2.St} [w1 : ClrI σ k σa] [h1 : SetI σa k x σ1] (hw : wipe σ1 [k] = wipe σ [k]) (hin : In H) (q : te σ1 H (kEl D (EachQ (gName k) tYes te [k] σ Q D In r))) : EachQ (gName k) tYes te [k] σ Q D In (x :: r) H := by
  have e : wipe σ [k] = σa := by
    show σ.set k none = σa
    exact w1.eq
  refine ⟨hin, ?_⟩
  rw [e] at hw ⊢
  show wipe (σa.set k (some x)) [k] = σa ∧ _
  rw [h1.eq]
  exact ⟨hw, iteT (B := EachQ (gName k) tYes te [k] σ Q D In r H) q⟩
/-- one item, by a test -/
theorem g_eachQt {k : Nat} {σa σ1 : L2.St} [w1 : ClrI σ k σa] [h1 : SetI σa k x σ1] (hw : wipe σ1 [k] = wipe σ [k]) (hin : In H) (q : tt σ1 H fun b H3 => if b = true then te σ1 H3 (kEl D (EachQ (gName k) tt te [k] σ Q D In r)) else EachQ (gName k) tt te [k] σ Q D In r H3) : EachQ (gName k) tt te [k] σ Q D In (x :: r) H := by
  have e : wipe σ [k] = σa := by
    show σ.set k none = σa
    exact w1.eq
  refine ⟨hin, ?_⟩
  rw [e] at hw ⊢
  show wipe (σa.set k (some x)) [k] = σa ∧ _
  rw [h1.eq]
  exact ⟨hw, q⟩
theorem g_eachQ0 (hin : In H) (q : Q (.ref D) H) : EachQ g tt te vs σ Q D In [] H := ⟨hin, q⟩
end
/-! a loop over a tuple that stays -/
def EachG (g : TG) (tb : TS) (D : Ends) (In : Hp → Prop) : List V → L2.St → Hp → Prop
  | [] => fun σ H => In H ∧ D.nx σ H
  | x :: r => fun σ H => In H ∧ g x σ H fun σ2 H2 => tb { D with nx := EachG g tb D In r, ct := EachG g tb D In r, bk := D.nx } σ2 H2
section
variable {K : PySem.W.Frag} {g : TG} {tb : TS} {D : Ends} {In : Hp → Prop} {σ σ' : L2.St} {H : Hp} {a : Addr} {xs r : List V} {x : V} {nx bk ct : L2.St → Hp → Prop} {rt : VK}
theorem eachG_in : ∀ {l : List V} {σ : L2.St} {H : Hp}, EachG g tb D In l σ H → In H
  | [], _, _, h => h.1
  | _ :: _, _, _, h => h.1
theorem g_turnG (In : Hp → Prop) (hi : ∀ H, In H → SqT K H a xs) (h0 : SqT K H a xs) (q : EachG g tb D In xs σ H) : kTurn K g tb D σ (.ref a) H := by
  refine ⟨a, rfl, ⟨xs, h0⟩, for_tup (fun i σ H => EachG g tb D In (xs.drop i) σ H) q (fun _ _ _ _ p => hi _ (eachG_in p)) (fun i x σ H hx p => ?_) fun σ H p => ?_⟩
  · obtain ⟨hlt, e⟩ := List.getElem?_eq_some_iff.mp hx
    rw [List.drop_eq_getElem_cons hlt, e] at p
    exact p.2
  · rw [List.drop_length] at p
    exact p.2
theorem g_eachG1 {i : Nat} [s : SetI σ i x σ'] (hin : In H) (q : tb ⟨EachG (gName i) tb ⟨nx, rt, bk, ct⟩ In r, rt, nx, EachG (gName i) tb ⟨nx, rt, bk, ct⟩ In r⟩ σ' H) : EachG (gName i) tb ⟨nx, rt, bk, ct⟩ In (x :: r) σ H := ⟨hin, by
  show tb _ (σ.set i (some x)) H
  rw [s.eq]
  exact q⟩
theorem g_eachG0 (hin : In H) (q : nx σ H) : EachG g tb ⟨nx, rt, bk, ct⟩ In [] σ H := ⟨hin, q⟩
end
/-! the keys of a dict that is looked at alone -/
def EachK (g : TG) (tb : TS) (D : Ends) (d : Addr) (u : HO) : List (Key × V) → L2.St → Hp → Prop
  | [] => fun σ H => H d = some u ∧ D.nx σ H
  | (k, _) :: r => fun σ H => H d = some u ∧ g (kV k) σ H fun σ2 H2 => tb { D with nx := EachK g tb D d u r, ct := EachK g tb D d u r, bk := D.nx } σ2 H2
section
variable {td : TE} {g : TG} {tb : TS} {D : Ends} {σ σ' : L2.St} {H : Hp} {d : Addr} {u : HO} {o : Obj} {kvs r : List (Key × V)} {k : Key} {v : V} {nx bk ct : L2.St → Hp → Prop} {rt : VK}
theorem eachK_frz : ∀ {l : List (Key × V)} {σ : L2.St} {H : Hp}, EachK g tb D d u l σ H → H d = some u
  | [], _, _, h => h.1
  | _ :: _, _, _, h => h.1
def ForOk (I : It) (g : TG) (tb : TS) (D : Ends) (σ : L2.St) (H1 : Hp) : Prop := ∃ W : Nat → Nat → L2.St → Hp → Prop, (∃ m, W 0 m σ H1) ∧ ∀ i m σ H, W i m σ H →
  (I.stop i H ∧ D.nx σ H) ∨ (I.go i H ∧ ∃ N : L2.St → Hp → Prop, (∀ σ' H', N σ' H' → ∃ m', m' < m ∧ W (i + 1) m' σ' H') ∧ ∀ x H', I.yld i H x H' → g x σ H' fun σ2 H2 => tb { D with nx := N, ct := N, bk := D.nx } σ2 H2)
def kKs (g : TG) (tb : TS) (D : Ends) (σ : L2.St) (x : V) (H1 : Hp) : Prop := ∃ d o, x = .ref d ∧ ((∃ kvs, H1 d = some (.frz o (.dK kvs)) ∧ ForOk (Itk d o kvs) g tb D σ H1) ∨ ∃ kvs, H1 d = some (.frz o (.dT kvs)) ∧ ForOk (Itkt d o kvs) g tb D σ H1)
instance : Step (tFor (iKeys (tLk td)) g tb D σ H) (td σ H (kLk (kKs g tb D σ))) := ⟨fun h => h⟩
theorem g_keys (hd : H d = some (.frz o (.dK kvs))) (q : EachK g tb D d (.frz o (.dK kvs)) kvs σ H) : kKs g tb D σ (.ref d) H := by
  refine ⟨d, o, rfl, .inl ⟨kvs, hd, fun i m σ H => m = kvs.length - i ∧ i ≤ kvs.length ∧ EachK g tb D d (.frz o (.dK kvs)) (kvs.drop i) σ H, ⟨kvs.length, by simp, Nat.zero_le _, q⟩, ?_⟩⟩
  rintro i m σ H ⟨rfl, hi, p⟩
  have hf := eachK_frz p
  by_cases hlt : i < kvs.length
  · refine .inr ⟨⟨hf, hlt⟩, fun σ' H' => EachK g tb D d (.frz o (.dK kvs)) (kvs.drop (i + 1)) σ' H', fun σ' H' p' => ⟨kvs.length - (i + 1), by omega, rfl, hlt, p'⟩, fun x H' y => ?_⟩
    obtain ⟨rfl, k, v, e, rfl⟩ := y
    obtain ⟨hi', e2⟩ := List.getElem?_eq_some_iff.mp e
    rw [List.drop_eq_getElem_cons hlt, e2] at p
    exact p.2
  · have e : i = kvs.length := by omega
    subst e
    rw [List.drop_length] at p
    exact .inl ⟨⟨hf, Nat.le_refl _⟩, p.2⟩
theorem g_eachK1 {i : Nat} [s : SetI σ i (kV k) σ'] (hin : H d = some u) (q : tb ⟨EachK (gName i) tb ⟨nx, rt, bk, ct⟩ d u r, rt, nx, EachK (gName i) tb ⟨nx, rt, bk, ct⟩ d u r⟩ σ' H) : EachK (gName i) tb ⟨nx, rt, bk, ct⟩ d u ((k, v) :: r) σ H := ⟨hin, by
  show tb _ (σ.set i (some (kV k))) H
  rw [s.eq]
  exact q⟩
theorem g_eachKs {i : Nat} {z : Str} [s : SetI σ i (.str z) σ'] (hin : H d = some u) (q : tb ⟨EachK (gName i) tb ⟨nx, rt, bk, ct⟩ d u r, rt, nx, EachK (gName i) tb ⟨nx, rt, bk, ct⟩ d u r⟩ σ' H) : EachK (gName i) tb ⟨nx, rt, bk, ct⟩ d u ((.inr z, v) :: r) σ H := ⟨hin, by
  show tb _ (σ.set i (some (.str z))) H
  rw [s.eq]
  exact q⟩
theorem g_dgF {a : Addr} {z : Str} {Q : VK} (h : H a = some (.frz o (.dK kvs))) (e : valV kvs (.inr z) = some v) (q : Q v H) : kDG Q (.ref a) (.str z) H :=
  ⟨a, v, rfl, .inl ⟨kvs, .inr z, .inr ⟨o, h⟩, rfl, e.symm⟩, q⟩
theorem g_eachK0 (hin : H d = some u) (q : nx σ H) : EachK g tb ⟨nx, rt, bk, ct⟩ d u [] σ H := ⟨hin, q⟩
end
/-! a loop over range(1, n) -/
def Loop2 (lo : Int) (n : Nat) (g : TG) (tb : TS) (D : Ends) (σ : L2.St) (H : Hp) : Prop := ForOk (Itr lo n) g tb D σ H
def kR2 (P : Int → Int → Hp → Prop) (vs : List V) (H : Hp) : Prop := ∃ i j : Int, vs = [.int i, .int j] ∧ (-(2 ^ 62) ≤ i ∧ i < 2 ^ 62 ∧ -(2 ^ 62) ≤ j ∧ j < 2 ^ 62) ∧ P i j H
section
variable {σ : L2.St} {H : Hp} {ta : TA} {g : TG} {tb : TS} {D : Ends} {i j : Int}
instance : Step (tFor (iRng2 ta) g tb D σ H) (ta σ H (kR2 fun i j H1 => Loop2 i (j - i).toNat g tb D σ H1)) := ⟨fun h => h⟩
theorem g_kR2 {P : Int → Int → Hp → Prop} (h1 : -(2 ^ 62) ≤ i) (h2 : i < 2 ^ 62) (h3 : -(2 ^ 62) ≤ j) (h4 : j < 2 ^ 62) (q : P i j H) : kR2 P [.int i, .int j] H := ⟨i, j, rfl, ⟨h1, h2, h3, h4⟩, q⟩
theorem g_loop2 {lo : Int} {n k : Nat} {nx : L2.St → Hp → Prop} {rt : VK} {bk ct : L2.St → Hp → Prop} (Pv : Nat → L2.St → Hp → Prop) (h0 : Pv 0 σ H)
    (hs : ∀ (i : Nat) σ H, i < n → Pv i σ H → tb ⟨Pv (i + 1), rt, nx, Pv (i + 1)⟩ (σ.set k (some (.int (lo + (i : Int))))) H) (hd : ∀ σ H, Pv n σ H → nx σ H) : Loop2 lo n (gName k) tb ⟨nx, rt, bk, ct⟩ σ H :=
  for_range (lo := lo) (n := n) (D := ⟨nx, rt, bk, ct⟩) Pv h0 (fun i σ H hi p => hs i σ H hi p) hd
end
/-! dicts of three numbers, compared -/
section
variable {X : Cx}
def d3 (x y z : V) : List (Key × V) := [(.inr "read", x), (.inr "written", y), (.inr "changed", z)]
def rEq3 : R2 := fun p q H Q => ∃ (a b : Addr) (x y z x' y' z' : Int), p = .ref a ∧ q = .ref b ∧ H a = some (.dK (d3 (.int x) (.int y) (.int z))) ∧ H b = some (.dK (d3 (.int x') (.int y') (.int z'))) ∧ Q (.bl (decide (x = x') && (decide (y = y') && (decide (z = z') && true)))) H
def rNe3 : R2 := fun p q H Q => ∃ (a b : Addr) (x y z x' y' z' : Int), p = .ref a ∧ q = .ref b ∧ H a = some (.dK (d3 (.int x) (.int y) (.int z))) ∧ H b = some (.dK (d3 (.int x') (.int y') (.int z'))) ∧ Q (.bl (!(decide (x = x') && (decide (y = y') && (decide (z = z') && true))))) H
theorem hits_one {A : Around} {s : Shared} {kvs : List (Key × V)} {vb : List (Key × Value)} {k : Key} {i j : Int} {u : Value} {qs : List (Key × Value)} {b : Bool} (rb : KV kvs vb) (e : valV kvs k = some (.int j)) (ru : RelV (.int i) u) (h : PySem.W.KeqHits A s vb qs b) : PySem.W.KeqHits A s vb ((k, u) :: qs) (decide (i = j) && b) := by
  have rr : RelO (some (.int j)) (valueAt vb k) := by rw [← e]; exact rb.val k
  obtain ⟨y, hy, ry⟩ := rr.some_of
  obtain ⟨t, rfl⟩ := (show ∃ t, u = Value.int i t from ru)
  obtain ⟨t', rfl⟩ := (show ∃ t, y = Value.int j t from ry)
  have q := SeqAt.EqAt.int_int (A := A) (s := s) i t j t'
  have e2 : (i == j) = decide (i = j) := rfl
  rw [e2] at q
  exact .hit hy q h
theorem hits3 {A : Around} {s : Shared} {va vb : List (Key × Value)} {x y z x' y' z' : Int} (ra : KV (d3 (.int x) (.int y) (.int z)) va) (rb : KV (d3 (.int x') (.int y') (.int z')) vb) : PySem.W.KeqHits A s vb va (decide (x = x') && (decide (y = y') && (decide (z = z') && true))) := by
  unfold KV d3 at ra
  cases ra with
  | @cons p q ps qs h t =>
    cases t with
    | @cons p2 q2 ps2 qs2 h2 t2 =>
      cases t2 with
      | @cons p3 q3 ps3 qs3 h3 t3 =>
        cases t3
        obtain ⟨k1, u1⟩ := q
        obtain ⟨k2, u2⟩ := q2
        obtain ⟨k3, u3⟩ := q3
        obtain ⟨e1, r1⟩ := h
        obtain ⟨e2, r2⟩ := h2
        obtain ⟨e3, r3⟩ := h3
        cases (show (Sum.inr "read" : Key) = k1 from e1)
        cases (show (Sum.inr "written" : Key) = k2 from e2)
        cases (show (Sum.inr "changed" : Key) = k3 from e3)
        exact hits_one rb rfl r1 (hits_one rb rfl r2 (hits_one rb rfl r3 .nil))
theorem op_eq3 (hu : X.A.units < cLine) : OpR X (compareOp .Eq) rEq3 := by
  intro pins s σ H x y v u Q I rx ry h
  obtain ⟨a, b, x, y, z, x', y', z', rfl, rfl, ea, eb, q⟩ := h
  obtain rfl : v = Value.ref a := rx
  obtain rfl : u = Value.ref b := ry
  obtain ⟨_, ya, va, ra, da⟩ := (show ObjOk X.prog X.w H s.heap a (.dK _) from I.hok a _ ea)
  obtain ⟨_, yb, vb, rb, db⟩ := (show ObjOk X.prog X.w H s.heap b (.dK _) from I.hok b _ eb)
  have hl : va.length = vb.length := by rw [← ra.length, ← rb.length]; rfl
  exact PySem.W.keq_eq (knd := mixKind X.prog X.w) (r := decide (x = x') && (decide (y = y') && (decide (z = z') && true))) ya yb da db hu (fun _ => hits3 ra rb) (fin_bl I q (by simp [hl]))
theorem op_ne3 (hu : X.A.units < cLine) : OpR X (compareOp .NotEq) rNe3 := by
  intro pins s σ H x y v u Q I rx ry h
  obtain ⟨a, b, x, y, z, x', y', z', rfl, rfl, ea, eb, q⟩ := h
  obtain rfl : v = Value.ref a := rx
  obtain rfl : u = Value.ref b := ry
  obtain ⟨_, ya, va, ra, da⟩ := (show ObjOk X.prog X.w H s.heap a (.dK _) from I.hok a _ ea)
  obtain ⟨_, yb, vb, rb, db⟩ := (show ObjOk X.prog X.w H s.heap b (.dK _) from I.hok b _ eb)
  have hl : va.length = vb.length := by rw [← ra.length, ← rb.length]; rfl
  exact PySem.W.keq_ne (knd := mixKind X.prog X.w) (r := decide (x = x') && (decide (y = y') && (decide (z = z') && true))) ya yb da db hu (fun _ => hits3 ra rb) (fin_bl I q (by simp [hl]))
end
section
variable {H : Hp} {Q : VK} {a b : Addr} {x y z x' y' z' : Int}
theorem g_eq3 (ha : H a = some (.dK (d3 (.int x) (.int y) (.int z)))) (hb : H b = some (.dK (d3 (.int x') (.int y') (.int z')))) {r : Bool} (e : (decide (x = x') && (decide (y = y') && (decide (z = z') && true))) = r) (q : Q (.bl r) H) : rEq3 (.ref a) (.ref b) H Q := ⟨a, b, x, y, z, x', y', z', rfl, rfl, ha, hb, by rw [e]; exact q⟩
theorem g_ne3 (ha : H a = some (.dK (d3 (.int x) (.int y) (.int z)))) (hb : H b = some (.dK (d3 (.int x') (.int y') (.int z')))) {r : Bool} (e : (decide (x = x') && (decide (y = y') && (decide (z = z') && true))) = r) (q : Q (.bl (!r)) H) : rNe3 (.ref a) (.ref b) H Q := ⟨a, b, x, y, z, x', y', z', rfl, rfl, ha, hb, by rw [e]; exact q⟩
theorem same3 (h1 : x = x') (h2 : y = y') (h3 : z = z') : (decide (x = x') && (decide (y = y') && (decide (z = z') && true))) = true := by subst h1 h2 h3; simp
end
/-! {k: v, ..} of values that are made -/
def kDisp (p : Addr) (Q : VK) (ps : List (V × V)) (H2 : Hp) : Prop := H2 p = some (.dK []) ∧ ∃ kvs : List (Key × V), ps = kvs.map (fun kv => (kV kv.1, kv.2)) ∧ kvs.length ≤ 15 ∧ Q (.ref p) (upd H2 p (.dK (mergeK [] kvs)))
section
variable {σ : L2.St} {H0 H : Hp} {M : Addr → Prop} {l l' : List Ent} {Q : VK} {trs r : List (TE × TE)} {tk tv : TE} {QP : List (V × V) → Hp → Prop}
theorem g_disp (S : Sh H0 M H l) (q : ∀ p H', Sh H0 M H' ((p, .dK [], true) :: l) → tPairs trs σ H' (kDisp p Q)) : tDisp trs σ H Q := fun p hp => q p _ (S.new hp)
instance : Step (tPairs [] σ H QP) (QP [] H) := ⟨fun h => h⟩
instance : Step (tPairs ((tk, tv) :: r) σ H QP) (tk σ H fun x H1 => tv σ H1 fun y H2 => tPairs r σ H2 fun ps H3 => QP ((x, y) :: ps) H3) := ⟨fun h => h⟩
theorem g_kdisp {p : Addr} {kvs : List (Key × V)} {ps : List (V × V)} (S : Sh H0 M H l) (r : Rep l p (.dK []) (.dK kvs) l') (e : ps = kvs.map (fun kv => (kV kv.1, kv.2))) (hl : Nat.ble kvs.length 15 = true) (em : mergeK [] kvs = kvs) (q : ∀ H', Sh H0 M H' l' → Q (.ref p) H') : kDisp p Q ps H :=
  ⟨S.has _ r.mem, kvs, e, Nat.le_of_ble_eq_true hl, by rw [em]; exact q _ (S.put r)⟩
end
/-! list(d), list(t); is, is not between truths; all, max of a list -/
def rListT (K : PySem.W.Frag) : List V → Hp → VK → Prop := fun xs H Q => ∃ p ys, xs = [.ref p] ∧ (SqL K H p ys ∨ SqT K H p ys) ∧ ∀ l, H l = none → Q (.ref l) (upd H l (.lst ys))
def rIsB (neg : Bool) : R2 := fun x y H Q => ∃ a b, x = .bl a ∧ y = .bl b ∧ Q (.bl (if neg then !decide (a = b) else decide (a = b))) H
section
variable {X : Cx} {H0 H : Hp} {M : Addr → Prop} {l : List Ent} {Q : VK} {K : PySem.W.Frag} {a : Addr} {kvs : List (Key × V)} {ys : List V} {x y : Bool}
theorem cl_listT : CallR X (.type "list") (rListT X.K) := call_list_of
theorem g_listT (S : Sh H0 M H l) (h : SqL K H a ys ∨ SqT K H a ys) (q : ∀ p H', H p = none → Sh H0 M H' ((p, .lst ys, true) :: l) → Q (.ref p) H') : rListT K [.ref a] H Q := ⟨a, ys, rfl, h, fun p hp => q p _ hp (S.new hp)⟩
theorem g_listK (S : Sh H0 M H l) (h : H a = some (.dK kvs)) (q : ∀ p H', H p = none → Sh H0 M H' ((p, .lst (kvs.map fun kv => kV kv.1), true) :: l) → Q (.ref p) H') : rListK [.ref a] H Q :=
  ⟨a, kvs, rfl, .inl h, fun p hp => q p _ hp (S.new hp)⟩
theorem op_isB : OpR X (compareOp .Is) (rIsB false) := op_is_bl
theorem op_isnotB : OpR X (compareOp .IsNot) (rIsB true) := op_isnot_bl
instance : Step (rIsB false (.bl x) (.bl y) H Q) (Q (.bl (decide (x = y))) H) := ⟨fun q => ⟨x, y, rfl, rfl, q⟩⟩
instance : Step (rIsB true (.bl x) (.bl y) H Q) (Q (.bl (!decide (x = y))) H) := ⟨fun q => ⟨x, y, rfl, rfl, q⟩⟩
theorem cl_all (hc : X.calm = true) : CallR X (.builtin "all") (rAll X.K) := cr_all hc
theorem cl_maxL (hc : X.calm = true) : CallR X (.builtin "max") (rMax X.K) := cr_max hc
theorem g_all {bs : List Bool} (h : SqL K H a (bs.map V.bl)) (q : Q (.bl (bs.all id)) H) : rAll K [.ref a] H Q := ⟨a, bs, rfl, h, q⟩
theorem g_maxL {ns : List Int} (h : SqL K H a (ns.map V.int)) (h0 : 0 < ns.length) (q : ∀ m, m ∈ ns → (∀ y, y ∈ ns → y ≤ m) → Q (.int m) H) : rMax K [.ref a] H Q := ⟨a, ns, rfl, h, h0, q⟩
end
/-! rules within a comprehension: the facts' K by name -/
section
variable {X : Cx} {K : PySem.W.Frag} {e : Expr} {ta : TE} {f : Str} {pos : Pos}
theorem pe_fldK (he : PE X e ta) (hb : attributeBase e f X.env (eval e X.env) = eval e X.env) (hK : X.K = K := by rfl) : PE X (.Attribute e f pos) (tFld K ta f) := hK ▸ pe_fld he hb
theorem call_isiK (hK : X.K = K := by rfl) : CallR X (.builtin "isinstance") (rIsi K) := hK ▸ call_isi
theorem op_in_seqK (hK : X.K = K := by rfl) : OpR X (compareOp .In) (rIn K false) := hK ▸ op_in_seq
theorem ix_tupK (hK : X.K = K := by rfl) : IxR X (rIxT K) := hK ▸ ix_tup
theorem ix_listK (hK : X.K = K := by rfl) : IxR X (rIxL K) := hK ▸ ix_list
end
theorem cmp_eqK {X : Cx} {P : Program} {w : World} {K : PySem.W.Frag} {mg : Str → Option Value} {base : Heap} {k : Nat} {f C : Addr} {ps : List Str} {sp : Sp} (D : Dn P w K mg base k f ps sp) (B : Cmp K .Eq C f) (hr : Room k X.A) (h1 : X.prog = P := by rfl) (h2 : X.w = w := by rfl) (h3 : X.K = K := by rfl) (h4 : X.mg = mg := by rfl) (h5 : X.base = base := by rfl) :
    OpR X (compareOp .Eq) (rCmp K C sp E0) := by
  subst h1 h2 h3 h4 h5
  exact cmp_eq D B hr passL
theorem g_listKy {H0 H : Hp} {M : Addr → Prop} {l : List Ent} {Q : VK} {a : Addr} {kvs : List (Key × V)} (ys : List V) (S : Sh H0 M H l) (h : H a = some (.dK kvs)) (e : (kvs.map fun kv => kV kv.1) = ys) (q : ∀ p H', H p = none → Sh H0 M H' ((p, .lst ys, true) :: l) → Q (.ref p) H') : rListK [.ref a] H Q := by
  subst e
  exact g_listK S h q
end AF
/-! what the top leaves, with its written dicts, looked at once; written tuples of texts as truths -/
namespace AF
open PySem PySem.Spec PyProof.Rows L2 He
open PySem.W (Frag findIn isFn subIn selfFirst notFirst specialIn takesIn mroIn kitOne keepIn codeIn recIn nsIn)
abbrev SeenT : Type := Seen × List (Option (List (Option (Str × Int))))
def lookT (fs : Frag → List Bool) (ds : List DA) (ts : List Tab) (K : Frag) : SeenT := (look fs ds K, ts.map fun t => dicW K (t.1 K))
def lookTW (ds : List DA) (ts : List Tab) (w : World) : SeenT := (lookW ds, ts.map fun t => some (keysIn w.params t.2))
def TellsT (fs : Frag → List Bool) (ds : List DA) (ts : List Tab) (w : World) (K : Frag) : Prop := lookT fs ds ts K = lookTW ds ts w
def lookTG (n : Nat) (fs : Frag → List Bool) (ds : List DA) (ts : List Tab) (g : Addr → Option Obj) : SeenT := lookT fs ds ts (frG g (PySem.cStatics :: asD g n))
def hookT2 (n : Nat) (fs : Frag → List Bool) (ds : List DA) (ts : List Tab) : PySem.W.Hook where
  α := SeenT
  obs := fun s => lookTG n fs ds ts s.heap.get?
  val := fun w => lookTW ds ts w
  says := fun w h => ∃ K : Frag, K.In h ∧ TellsT fs ds ts w K
  of := fun _ _ e => ⟨_, frG_in, e⟩
  keeps := fun _ _ _ ⟨K, hK, c⟩ k => ⟨K, Frag.In.keeps hK k, c⟩
theorem lookTG_eq {n : Nat} {fs : Frag → List Bool} {ds : List DA} {ts : List Tab} {g : Addr → Option Obj} {s : Shared} (h : ∀ a, g a = s.heap.get? a) : lookTG n fs ds ts g = (hookT2 n fs ds ts).obs s := by
  have e : g = s.heap.get? := funext h
  rw [e]
  rfl
section
variable {fs : Frag → List Bool} {ds : List DA} {ts : List Tab} {w : World} {K : Frag}
theorem TellsT.d (c : TellsT fs ds ts w K) : Tells fs ds K := congrArg (fun z : SeenT => z.1) c
theorem TellsT.tab (c : TellsT fs ds ts w K) (i : Nat) {t : Tab} (h : ts[i]? = some t := by rfl) : ∃ es n, KDict K w (t.1 K) es n := by
  have e : ts.map (fun t => dicW K (t.1 K)) = ts.map fun t => some (keysIn w.params t.2) := congrArg (fun z : SeenT => z.2) c
  have e2 : (ts.map fun t => dicW K (t.1 K))[i]? = (ts.map fun t => some (keysIn w.params t.2))[i]? := by rw [e]
  rw [List.getElem?_map, List.getElem?_map, h] at e2
  exact dicW_ok (Option.some.inj e2)
end
/-! a written tuple of texts -/
def strsB : List Str → List Value → Bool
  | [], [] => true
  | x :: r, .str y _ :: q => decide (y = x) && strsB r q
  | _, _ => false
theorem strsB_ok : ∀ {ms : List Str} {us : List Value}, strsB ms us = true → Vals (ms.map V.str) us
  | [], [], _ => .nil
  | x :: r, .str y t :: q, h => by
    obtain ⟨h1, h2⟩ := ba (show (decide (y = x) && strsB r q) = true from h)
    obtain rfl : y = x := of_decide_eq_true h1
    exact .cons ⟨t, rfl⟩ (strsB_ok h2)
  | [], _ :: _, h => by simp [strsB] at h
  | _ :: _, [], h => by simp [strsB] at h
  | x :: r, u :: q, h => by
    cases u with
    | str y t =>
      obtain ⟨h1, h2⟩ := ba (show (decide (y = x) && strsB r q) = true from h)
      obtain rfl : y = x := of_decide_eq_true h1
      exact .cons ⟨t, rfl⟩ (strsB_ok h2)
    | _ => simp [strsB] at h
def ktB (K : Frag) (a : Addr) (ms : List Str) : Bool := match K.lookup a with
  | some ⟨.type c, _, .seq its _, _⟩ => decide (c = "tuple") && (strsB ms its.toList && Nat.ble its.size 1000)
  | _ => false
theorem ktB_ok {K : Frag} {a : Addr} {ms : List Str} (h : ktB K a ms = true) : AF.KT K a (ms.map V.str) := by
  unfold ktB at h
  cases q : K.lookup a with
  | none => rw [q] at h; cases h
  | some o =>
    obtain ⟨oc, od, dt, osl⟩ := o
    rw [q] at h
    cases oc with
    | type c =>
      cases dt with
      | seq its n =>
        obtain ⟨h1, h2⟩ := ba (show (decide (c = "tuple") && (strsB ms its.toList && Nat.ble its.size 1000)) = true from h)
        obtain ⟨h3, h4⟩ := ba h2
        obtain rfl : c = "tuple" := of_decide_eq_true h1
        exact ⟨_, its, n, q, rfl, rfl, line_of h4, strsB_ok h3⟩
      | _ => cases h
    | _ => cases dt <;> cases h
/-- what stands at a key is a written tuple of texts -/
def nowB (K : Frag) (d : Addr) (x : Str) (ms : List Str) : Bool := match nsIn K d x with
  | some (some (.ref t)) => ktB K t ms
  | _ => false
theorem nowB_ok {K : Frag} {d : Addr} {x : Str} {ms : List Str} (h : nowB K d x ms = true) : ∃ t : Addr, nsIn K d x = some (some (.ref t)) ∧ AF.KT K t (ms.map V.str) := by
  unfold nowB at h
  split at h
  · rename_i t e
    exact ⟨t, e, ktB_ok h⟩
  · cases h
theorem now_some {K : Frag} {d : Addr} {x : Str} {ms : List V} (h : ∃ t : Addr, nsIn K d x = some (some (.ref t)) ∧ AF.KT K t ms) : ∃ v, nsIn K d x = some (some v) := by
  obtain ⟨t, e, _⟩ := h
  exact ⟨_, e⟩
end AF
/-! what the top leaves, looked at in two parts -/
namespace AF
open PySem PySem.Spec PyProof.Rows L2 He
open PySem.W (Frag OpenRow)
open HandSHeadRun
def lookP (n : Nat) (f1 : Frag → List Bool) (d1 : List DA) (f2 : Frag → List Bool) (d2 : List DA) (g : Addr → Option Obj) : SeenT × SeenT := (lookTG n f1 d1 [] g, lookTG n f2 d2 [] g)
def hookP (n : Nat) (f1 : Frag → List Bool) (d1 : List DA) (f2 : Frag → List Bool) (d2 : List DA) : PySem.W.Hook where
  α := SeenT × SeenT
  obs := fun s => lookP n f1 d1 f2 d2 s.heap.get?
  val := fun w => (lookTW d1 [] w, lookTW d2 [] w)
  says := fun w h => ∃ K : Frag, K.In h ∧ (TellsT f1 d1 [] w K ∧ TellsT f2 d2 [] w K)
  of := fun _ _ e => ⟨_, frG_in, (Prod.mk.inj e).1, (Prod.mk.inj e).2⟩
  keeps := fun _ _ _ ⟨K, hK, c⟩ k => ⟨K, Frag.In.keeps hK k, c⟩
theorem lookP_eq {n : Nat} {f1 f2 : Frag → List Bool} {d1 d2 : List DA} {g : Addr → Option Obj} {s : Shared} (h : ∀ a, g a = s.heap.get? a) : lookP n f1 d1 f2 d2 g = (hookP n f1 d1 f2 d2).obs s := by
  have e : g = s.heap.get? := funext h
  rw [e]
  rfl
theorem map_two {α β γ δ : Type} {o : Option α} {f : α → β} {g : α → γ} {b : β} {c : γ} (k : α → δ) (e : β → γ → δ) (hk : ∀ a, k a = e (f a) (g a)) (h1 : o.map f = some b) (h2 : o.map g = some c) : o.map k = some (e b c) := by
  cases o with
  | none => cases h1
  | some a =>
    cases h1
    cases h2
    show some (k a) = _
    rw [hk]
theorem run_split {r : OpenRow} {q : Program} {n M : Nat} {f1 f2 : Frag → List Bool} {d1 d2 : List DA} {loose : List PySem.Str} {w : World}
    (h1 : RunEq r q (hookT2 n f1 d1 []) (fun s => lookTG n f1 d1 [] (getT s)) M loose w)
    (h2 : ∀ os : OsState, (endF (stepQ (denQ tabQ) r.prog w) M r.prog w os).map (fun s => lookTG n f2 d2 [] (getT s)) = some (lookTW d2 [] w)) :
    RunEq r q (hookP n f1 d1 f2 d2) (fun s => lookP n f1 d1 f2 d2 (getT s)) M loose w := fun os =>
  map_two _ (fun (x : Bool × _ × SeenT) (y : SeenT) => (x.1, x.2.1, (x.2.2, y))) (fun _ => rfl) (h1 os) (h2 os)
end AF
/-! what the top leaves: code objects stand, but are not looked into *-/
namespace AF
open PySem PySem.Spec PyProof.Rows L2 He
open PySem.W (Frag OpenRow)
open HandSHeadRun
def leafO (o : Obj) : Bool := match o.cls with
  | .type c => decide (c = "code")
  | _ => false
def refsP (o : Obj) : List Addr := match leafO o with
  | true => []
  | false => refsD o
def dd1 (seen : List Addr) : List Addr → List Addr
  | [] => []
  | a :: r => match seen.elem a with
    | true => dd1 seen r
    | false => a :: dd1 (a :: seen) r
def refsA (g : Addr → Option Obj) (a : Addr) : List Addr := match g a with
  | some o => refsP o
  | none => []
def asP (g : Addr → Option Obj) : Nat → List Addr → List Addr → List Addr
  | 0, seen, _ => seen
  | n + 1, seen, front => asP g n (seen ++ dd1 seen (front.flatMap (refsA g))) (dd1 seen (front.flatMap (refsA g)))
def lookTP (n : Nat) (fs : Frag → List Bool) (ds : List DA) (g : Addr → Option Obj) : SeenT := lookT fs ds [] (frG g (PySem.cStatics :: asP g n [mainGlobals] [mainGlobals]))
def lookQ (n : Nat) (f1 : Frag → List Bool) (d1 : List DA) (f2 : Frag → List Bool) (d2 : List DA) (g : Addr → Option Obj) : SeenT × SeenT := (lookTP n f1 d1 g, lookTP n f2 d2 g)
def hookQ1 (n : Nat) (fs : Frag → List Bool) (ds : List DA) : PySem.W.Hook where
  α := SeenT
  obs := fun s => lookTP n fs ds s.heap.get?
  val := fun w => lookTW ds [] w
  says := fun w h => ∃ K : Frag, K.In h ∧ TellsT fs ds [] w K
  of := fun _ _ e => ⟨_, frG_in, e⟩
  keeps := fun _ _ _ ⟨K, hK, c⟩ k => ⟨K, Frag.In.keeps hK k, c⟩
def hookQ (n : Nat) (f1 : Frag → List Bool) (d1 : List DA) (f2 : Frag → List Bool) (d2 : List DA) : PySem.W.Hook where
  α := SeenT × SeenT
  obs := fun s => lookQ n f1 d1 f2 d2 s.heap.get?
  val := fun w => (lookTW d1 [] w, lookTW d2 [] w)
  says := fun w h => ∃ K : Frag, K.In h ∧ (TellsT f1 d1 [] w K ∧ TellsT f2 d2 [] w K)
  of := fun _ _ e => ⟨_, frG_in, (Prod.mk.inj e).1, (Prod.mk.inj e).2⟩
  keeps := fun _ _ _ ⟨K, hK, c⟩ k => ⟨K, Frag.In.keeps hK k, c⟩
theorem lookQ_eq {n : Nat} {f1 f2 : Frag → List Bool} {d1 d2 : List DA} {g : Addr → Option Obj} {s : Shared} (h : ∀ a, g a = s.heap.get? a) : lookQ n f1 d1 f2 d2 g = (hookQ n f1 d1 f2 d2).obs s := by
  have e : g = s.heap.get? := funext h
  rw [e]
  rfl
theorem run_splitQ {r : OpenRow} {q : Program} {n M : Nat} {f1 f2 : Frag → List Bool} {d1 d2 : List DA} {loose : List PySem.Str} {w : World}
    (h1 : RunEq r q (hookQ1 n f1 d1) (fun s => lookTP n f1 d1 (getT s)) M loose w)
    (h2 : ∀ os : OsState, (endF (stepQ (denQ tabQ) r.prog w) M r.prog w os).map (fun s => lookTP n f2 d2 (getT s)) = some (lookTW d2 [] w)) :
    RunEq r q (hookQ n f1 d1 f2 d2) (fun s => lookQ n f1 d1 f2 d2 (getT s)) M loose w := fun os =>
  map_two _ (fun (x : Bool × _ × SeenT) (y : SeenT) => (x.1, x.2.1, (x.2.2, y))) (fun _ => rfl) (h1 os) (h2 os)
end AF
/-! sets of counts, told by pairs: the mathematics -/
namespace ST
abbrev Pr := Int × Option Int
def inP (x : Int) (p : Pr) : Prop := p.1 ≤ x ∧ ∀ h, p.2 = some h → x ≤ h
def Ok (p : Pr) : Prop := 0 ≤ p.1 ∧ ∀ h, p.2 = some h → p.1 ≤ h
def sem (ps : List Pr) (x : Int) : Prop := ∃ p, p ∈ ps ∧ inP x p
theorem sem_nil {x : Int} : sem [] x ↔ False := ⟨fun ⟨_, h, _⟩ => (nomatch h), False.elim⟩
theorem sem_cons {p : Pr} {r : List Pr} {x : Int} : sem (p :: r) x ↔ inP x p ∨ sem r x := by
  constructor
  · rintro ⟨q, hq, h⟩
    rcases List.mem_cons.mp hq with e | e
    · exact .inl (e ▸ h)
    · exact .inr ⟨q, e, h⟩
  · rintro (h | ⟨q, hq, h⟩)
    · exact ⟨p, List.mem_cons_self, h⟩
    · exact ⟨q, List.mem_cons_of_mem _ hq, h⟩
theorem sem_append {a b : List Pr} {x : Int} : sem (a ++ b) x ↔ sem a x ∨ sem b x := by
  constructor
  · rintro ⟨q, hq, h⟩
    rcases List.mem_append.mp hq with e | e
    · exact .inl ⟨q, e, h⟩
    · exact .inr ⟨q, e, h⟩
  · rintro (⟨q, hq, h⟩ | ⟨q, hq, h⟩)
    · exact ⟨q, List.mem_append_left _ hq, h⟩
    · exact ⟨q, List.mem_append_right _ hq, h⟩
/-- p ends well before q -/
def Bef (p q : Pr) : Prop := ∃ h, p.2 = some h ∧ h + 1 < q.1
inductive Canon : List Pr → Prop
  | nil : Canon []
  | one {p : Pr} : Ok p → Canon [p]
  | cons {p q : Pr} {r : List Pr} : Ok p → Bef p q → Canon (q :: r) → Canon (p :: q :: r)
theorem Canon.ok {p : Pr} {r : List Pr} (c : Canon (p :: r)) : Ok p := by
  cases c <;> assumption
theorem Canon.tail {p : Pr} {r : List Pr} (c : Canon (p :: r)) : Canon r := by
  cases c with
  | one => exact .nil
  | cons _ _ h => exact h
theorem Canon.oks : ∀ {l : List Pr}, Canon l → ∀ p, p ∈ l → Ok p
  | _ :: _, c, p, h => by
    rcases List.mem_cons.mp h with e | e
    · exact e ▸ c.ok
    · exact c.tail.oks p e
theorem Canon.lo : ∀ {r : List Pr} {p : Pr} {x : Int}, Canon (p :: r) → sem (p :: r) x → p.1 ≤ x
  | [], p, x, _, s => by
    rcases sem_cons.mp s with h | h
    · exact h.1
    · exact (sem_nil.mp h).elim
  | q :: r, p, x, c, s => by
    rcases sem_cons.mp s with h | h
    · exact h.1
    · cases c with
      | cons ok bf c' =>
        have := c'.lo h
        obtain ⟨e, he, hb⟩ := bf
        have := ok.2 e he
        omega
theorem Canon.sep {r : List Pr} {p : Pr} {x : Int} (c : Canon (p :: r)) (s : sem r x) : ∃ h, p.2 = some h ∧ h + 1 < x := by
  cases c with
  | one => exact (sem_nil.mp s).elim
  | cons ok bf c' =>
    have := c'.lo s
    obtain ⟨e, he, hb⟩ := bf
    exact ⟨e, he, by omega⟩
theorem in_low {p : Pr} (h : Ok p) : inP p.1 p := ⟨Int.le_refl _, h.2⟩
theorem Canon.nn {l : List Pr} {x : Int} (c : Canon l) (s : sem l x) : 0 ≤ x := by
  obtain ⟨p, hp, h⟩ := s
  have := (c.oks p hp).1
  have := h.1
  omega
theorem Canon.rest {r : List Pr} {p : Pr} {x : Int} (c : Canon (p :: r)) : sem r x ↔ sem (p :: r) x ∧ ¬ inP x p := by
  constructor
  · intro s
    obtain ⟨h, e, hb⟩ := c.sep s
    exact ⟨sem_cons.mpr (.inr s), fun i => by have := i.2 h e; omega⟩
  · rintro ⟨s, n⟩
    rcases sem_cons.mp s with h | h
    · exact absurd h n
    · exact h
theorem canon_uniq : ∀ {a b : List Pr}, Canon a → Canon b → (∀ x, sem a x ↔ sem b x) → a = b
  | [], [], _, _, _ => rfl
  | [], q :: t, _, cb, h => (sem_nil.mp ((h q.1).mpr (sem_cons.mpr (.inl (in_low cb.ok))))).elim
  | p :: r, [], ca, _, h => (sem_nil.mp ((h p.1).mp (sem_cons.mpr (.inl (in_low ca.ok))))).elim
  | p :: r, q :: t, ca, cb, h => by
    have l1 : q.1 ≤ p.1 := cb.lo ((h p.1).mp (sem_cons.mpr (.inl (in_low ca.ok))))
    have l2 : p.1 ≤ q.1 := ca.lo ((h q.1).mpr (sem_cons.mpr (.inl (in_low cb.ok))))
    have l3 : p.1 = q.1 := by omega
    have gap : ∀ {p : Pr} {r : List Pr} {e : Int}, Canon (p :: r) → p.2 = some e → ¬ sem (p :: r) (e + 1) := fun {p r e} c he s => by
      rcases sem_cons.mp s with i | i
      · have := i.2 e he; omega
      · obtain ⟨e', he', hb⟩ := c.sep i
        rw [he] at he'
        cases he'
        omega
    have le : p.2 = q.2 := by
      cases hp : p.2 with
      | none =>
        cases hq : q.2 with
        | none => rfl
        | some e =>
          have := cb.ok.2 e hq
          exact absurd ((h (e + 1)).mp (sem_cons.mpr (.inl ⟨by omega, fun h' e' => by rw [hp] at e'; cases e'⟩))) (gap cb hq)
      | some e =>
        have o1 := ca.ok.2 e hp
        cases hq : q.2 with
        | none => exact absurd ((h (e + 1)).mpr (sem_cons.mpr (.inl ⟨by omega, fun h' e' => by rw [hq] at e'; cases e'⟩))) (gap ca hp)
        | some e2 =>
          have o2 := cb.ok.2 e2 hq
          by_cases c1 : e < e2
          · exact absurd ((h (e + 1)).mpr (sem_cons.mpr (.inl ⟨by omega, fun h' e' => by rw [hq] at e'; cases e'; omega⟩))) (gap ca hp)
          · by_cases c2 : e2 < e
            · exact absurd ((h (e2 + 1)).mp (sem_cons.mpr (.inl ⟨by omega, fun h' e' => by rw [hp] at e'; cases e'; omega⟩))) (gap cb hq)
            · rw [show e = e2 by omega]
    have epq : p = q := Prod.ext l3 le
    subst epq
    rw [canon_uniq ca.tail cb.tail fun x => by rw [ca.rest, cb.rest, h x]]
/-! joining: sorted lows beside sorted highs -/
def loB (x : Int) (p : Pr) : Bool := decide (p.1 ≤ x)
def hiB (x : Int) (p : Pr) : Bool := match p.2 with
  | some h => decide (h < x)
  | none => false
theorem hi_lo {x : Int} {p : Pr} (o : Ok p) (h : hiB (x + 1) p = true) : loB x p = true := by
  unfold hiB at h
  unfold loB
  cases e : p.2 with
  | none => rw [e] at h; cases h
  | some u =>
    rw [e] at h
    have h := of_decide_eq_true h
    have := o.2 u e
    exact decide_eq_true (by omega)
theorem in_iff {x : Int} {p : Pr} : inP x p ↔ loB x p = true ∧ hiB x p = false := by
  unfold inP loB hiB
  cases e : p.2 with
  | none => simp
  | some u => simp [Int.not_lt]
theorem hi_mono {x : Int} {p : Pr} (h : hiB x p = true) : hiB (x + 1) p = true := by
  unfold hiB at h ⊢
  cases e : p.2 with
  | none => rw [e] at h; cases h
  | some u =>
    rw [e] at h
    have h := of_decide_eq_true h
    exact decide_eq_true (by omega)
theorem counts {x : Int} : ∀ {ps : List Pr}, (∀ p, p ∈ ps → Ok p) → ps.countP (hiB x) ≤ ps.countP (loB x) ∧ (sem ps x ↔ ps.countP (hiB x) < ps.countP (loB x))
  | [], _ => by simp [sem_nil]
  | p :: r, o => by
    have ih := counts (x := x) (ps := r) fun q h => o q (List.mem_cons_of_mem _ h)
    have op := o p List.mem_cons_self
    rw [List.countP_cons, List.countP_cons, sem_cons, in_iff, ih.2]
    have hl := fun z => hi_lo (x := x) op (hi_mono z)
    cases e1 : hiB x p <;> cases e2 : loB x p
    · simp; omega
    · simp; omega
    · rw [hl e1] at e2; cases e2
    · simp; omega
theorem counts2 {x : Int} : ∀ {ps : List Pr}, (∀ p, p ∈ ps → Ok p) → ps.countP (hiB (x + 1)) ≤ ps.countP (loB x)
  | [], _ => by simp
  | p :: r, o => by
    have ih := counts2 (x := x) (ps := r) fun q h => o q (List.mem_cons_of_mem _ h)
    have hl := hi_lo (x := x) (o p List.mem_cons_self)
    rw [List.countP_cons, List.countP_cons]
    cases e1 : hiB (x + 1) p
    · cases e2 : loB x p <;> simp <;> omega
    · rw [hl e1]; simp; omega
theorem cnt_lo {x : Int} (ps : List Pr) : ps.countP (loB x) = (ps.map (·.1)).countP fun v => decide (v ≤ x) := by
  rw [List.countP_map]; rfl
theorem cnt_hi {x : Int} : ∀ (ps : List Pr), ps.countP (hiB x) = (ps.filterMap (·.2)).countP fun v => decide (v < x)
  | [] => rfl
  | p :: r => by
    rw [List.countP_cons, cnt_hi r]
    unfold hiB
    cases e : p.2 with
    | none => rw [List.filterMap_cons, e]; simp
    | some u => rw [List.filterMap_cons, e]; simp only [List.countP_cons]
/-- in a sorted list -/
theorem srt_lo {x : Int} : ∀ {L : List Int} {k : Nat}, L.Pairwise (· ≤ ·) → (k < L.countP (fun v => decide (v ≤ x)) ↔ ∃ v, L[k]? = some v ∧ v ≤ x)
  | [], k, _ => by simp
  | v :: r, k, s => by
    rw [List.pairwise_cons] at s
    rw [List.countP_cons]
    by_cases c : v ≤ x
    · rw [if_pos (decide_eq_true c)]
      cases k with
      | zero => simp [c]
      | succ k =>
        rw [List.getElem?_cons_succ, ← srt_lo s.2]
        omega
    · have z : r.countP (fun v => decide (v ≤ x)) = 0 := List.countP_eq_zero.mpr fun u hu => by
        have := s.1 u hu
        simp only [decide_eq_true_eq]; omega
      rw [z]
      simp only [decide_eq_true_eq, c, if_false, Nat.add_zero, Nat.not_lt_zero, false_iff]
      rintro ⟨u, hu, hx⟩
      have : u ∈ v :: r := List.mem_of_getElem? hu
      rcases List.mem_cons.mp this with e | e
      · omega
      · have := s.1 u e; omega
theorem srt_hi {x : Int} {L : List Int} {k : Nat} (s : L.Pairwise (· ≤ ·)) : L.countP (fun v => decide (v < x)) ≤ k ↔ ∀ v, L[k]? = some v → x ≤ v := by
  have e : (fun v : Int => decide (v < x)) = fun v => decide (v ≤ x - 1) := funext fun v => by simp only [decide_eq_decide]; omega
  have h := srt_lo (x := x - 1) (k := k) s
  rw [e]
  constructor
  · intro hk v hv
    by_cases c : x ≤ v
    · exact c
    · have := h.mpr ⟨v, hv, by omega⟩; omega
  · intro hv
    by_cases c : k < L.countP (fun v => decide (v ≤ x - 1))
    · obtain ⟨v, e1, e2⟩ := h.mp c
      have := hv v e1; omega
    · omega
def zp : List Int → List Int → List Pr
  | [], _ => []
  | l :: ls, [] => (l, none) :: zp ls []
  | l :: ls, h :: hs => (l, some h) :: zp ls hs
theorem zp_get : ∀ {L Hs : List Int} {k : Nat} {p : Pr}, (zp L Hs)[k]? = some p ↔ L[k]? = some p.1 ∧ Hs[k]? = p.2
  | [], Hs, k, p => by simp [zp]
  | l :: ls, [], 0, p => by
    obtain ⟨a, b⟩ := p
    simp [zp, eq_comm]
  | l :: ls, [], k + 1, p => by
    show (zp ls [])[k]? = some p ↔ _
    rw [zp_get]; simp
  | l :: ls, h :: hs, 0, p => by
    obtain ⟨a, b⟩ := p
    simp [zp, eq_comm]
  | l :: ls, h :: hs, k + 1, p => by
    show (zp ls hs)[k]? = some p ↔ _
    rw [zp_get]; simp
theorem sem_get {ps : List Pr} {x : Int} : sem ps x ↔ ∃ (k : Nat) (p : Pr), ps[k]? = some p ∧ inP x p := by
  constructor
  · rintro ⟨p, hp, h⟩
    obtain ⟨k, hk⟩ := List.mem_iff_getElem?.mp hp
    exact ⟨k, p, hk, h⟩
  · rintro ⟨k, p, hk, h⟩
    exact ⟨p, List.mem_of_getElem? hk, h⟩
section
variable {ps : List Pr} {L Hs : List Int} (o : ∀ p, p ∈ ps → Ok p) (pL : L.Perm (ps.map (·.1))) (pH : Hs.Perm (ps.filterMap (·.2))) (sL : L.Pairwise (· ≤ ·)) (sH : Hs.Pairwise (· ≤ ·))
include o pL pH sL sH
theorem zp_sem (x : Int) : sem (zp L Hs) x ↔ sem ps x := by
  have c := (counts (x := x) o).2
  rw [cnt_lo, cnt_hi, ← pL.countP_eq, ← pH.countP_eq] at c
  rw [c, sem_get]
  constructor
  · rintro ⟨k, p, hk, i⟩
    obtain ⟨h1, h2⟩ := zp_get.mp hk
    have a := (srt_lo (x := x) sL).mpr ⟨p.1, h1, i.1⟩
    have b := (srt_hi (x := x) (k := k) sH).mpr fun v hv => i.2 v (by rw [← h2, hv])
    omega
  · intro h
    obtain ⟨v, e1, e2⟩ := (srt_lo (x := x) sL).mp h
    have b := (srt_hi (x := x) sH).mp (Nat.le_refl (Hs.countP fun v => decide (v < x)))
    exact ⟨_, (v, Hs[Hs.countP fun v => decide (v < x)]?), zp_get.mpr ⟨e1, rfl⟩, e2, fun u hu => b u hu⟩
theorem zp_ok : ∀ p, p ∈ zp L Hs → Ok p := by
  intro p hp
  obtain ⟨k, hk⟩ := List.mem_iff_getElem?.mp hp
  obtain ⟨h1, h2⟩ := zp_get.mp hk
  refine ⟨?_, fun u hu => ?_⟩
  · obtain ⟨q, hq, e⟩ := List.mem_map.mp (pL.mem_iff.mp (List.mem_of_getElem? h1))
    have := (o q hq).1
    omega
  · have c := counts2 (x := u) o
    rw [cnt_lo, cnt_hi, ← pL.countP_eq, ← pH.countP_eq] at c
    have b : ¬ Hs.countP (fun v => decide (v < u + 1)) ≤ k := fun z => by
      have := (srt_hi sH).mp z u (by rw [h2, hu]); omega
    obtain ⟨v, e1, e2⟩ := (srt_lo (x := u) (k := k) sL).mp (by omega)
    rw [h1] at e1
    cases e1
    exact e2
theorem hs_le : Hs.length ≤ L.length := by
  rw [pL.length_eq, pH.length_eq, List.length_map]
  exact List.length_filterMap_le _ _
end
/-! neighbours joined -/
def After (p q : Pr) : Prop := p.1 ≤ q.1 ∧ ∀ h', q.2 = some h' → ∃ h, p.2 = some h ∧ h ≤ h'
theorem zp_mem1 {L Hs : List Int} {p : Pr} (h : p ∈ zp L Hs) : p.1 ∈ L ∧ ∀ u, p.2 = some u → u ∈ Hs := by
  obtain ⟨k, hk⟩ := List.mem_iff_getElem?.mp h
  obtain ⟨h1, h2⟩ := zp_get.mp hk
  exact ⟨List.mem_of_getElem? h1, fun u hu => List.mem_of_getElem? (h2.trans hu)⟩
theorem zp_srt : ∀ {L Hs : List Int}, L.Pairwise (· ≤ ·) → Hs.Pairwise (· ≤ ·) → (zp L Hs).Pairwise After
  | [], Hs, _, _ => by simp [zp]
  | l :: ls, [], sL, sH => by
    rw [List.pairwise_cons] at sL
    show List.Pairwise After ((l, none) :: zp ls [])
    rw [List.pairwise_cons]
    refine ⟨fun q hq => ⟨sL.1 _ (zp_mem1 hq).1, fun h' e => (nomatch (zp_mem1 hq).2 h' e)⟩, zp_srt sL.2 sH⟩
  | l :: ls, h :: hs, sL, sH => by
    rw [List.pairwise_cons] at sL sH
    show List.Pairwise After ((l, some h) :: zp ls hs)
    rw [List.pairwise_cons]
    exact ⟨fun q hq => ⟨sL.1 _ (zp_mem1 hq).1, fun h' e => ⟨h, rfl, sH.1 _ ((zp_mem1 hq).2 h' e)⟩⟩, zp_srt sL.2 sH.2⟩
def anew (p q : Pr) : Bool := match p.2 with
  | some h => decide (h + 1 < q.1)
  | none => false
def glue (p : Pr) : List Pr → List Pr
  | [] => [p]
  | c :: t => (p.1, c.2) :: t
def grp : List Pr → List Pr
  | [] => []
  | [p] => [p]
  | p :: q :: r => if anew p q = true then p :: grp (q :: r) else glue p (grp (q :: r))
theorem grp_ok : ∀ {p : Pr} {r : List Pr}, (∀ q, q ∈ p :: r → Ok q) → (p :: r).Pairwise After → ∃ e t, grp (p :: r) = (p.1, e) :: t ∧ Canon ((p.1, e) :: t) ∧ (∀ h', e = some h' → ∃ h, p.2 = some h ∧ h ≤ h') ∧ ∀ x, sem ((p.1, e) :: t) x ↔ sem (p :: r) x
  | p, [], o, _ => ⟨p.2, [], rfl, .one (o p List.mem_cons_self), fun h' e => ⟨h', e, Int.le_refl _⟩, fun x => Iff.rfl⟩
  | p, q :: r, o, s => by
    rw [List.pairwise_cons] at s
    obtain ⟨e, t, h1, h2, h3, h4⟩ := grp_ok (p := q) (r := r) (fun u hu => o u (List.mem_cons_of_mem _ hu)) s.2
    have op := o p List.mem_cons_self
    have pq := s.1 q List.mem_cons_self
    unfold grp
    rw [h1]
    by_cases c : anew p q = true
    · rw [if_pos c]
      refine ⟨p.2, (q.1, e) :: t, rfl, .cons op ?_ h2, fun h' e => ⟨h', e, Int.le_refl _⟩, fun x => ?_⟩
      · unfold anew at c
        cases ep : p.2 with
        | none => rw [ep] at c; cases c
        | some u => rw [ep] at c; exact ⟨u, rfl, of_decide_eq_true c⟩
      · rw [sem_cons, h4 x]
        exact sem_cons.symm
    · rw [if_neg c]
      have o2 : Ok (p.1, e) := ⟨op.1, fun u hu => by have := h2.ok.2 u hu; have := pq.1; show p.1 ≤ u; exact Int.le_trans pq.1 (h2.ok.2 u hu)⟩
      refine ⟨e, t, rfl, ?_, fun h' e' => ?_, fun x => ?_⟩
      · cases h2 with
        | one => exact .one o2
        | cons _ bf c' => exact .cons o2 bf c'
      · obtain ⟨h, hq, hl⟩ := h3 h' e'
        obtain ⟨h0, hp, hl2⟩ := pq.2 h hq
        exact ⟨h0, hp, by omega⟩
      · rw [sem_cons, sem_cons (p := p), ← h4 x, sem_cons]
        constructor
        · rintro (i | i)
          · by_cases cx : q.1 ≤ x
            · exact .inr (.inl ⟨cx, i.2⟩)
            · refine .inl ⟨i.1, fun u hu => ?_⟩
              unfold anew at c
              rw [hu] at c
              simp only [decide_eq_true_eq] at c
              omega
          · exact .inr (.inr i)
        · rintro (i | i | i)
          · refine .inl ⟨i.1, fun u hu => ?_⟩
            obtain ⟨h, hq, hl⟩ := h3 u hu
            obtain ⟨h0, hp, hl2⟩ := pq.2 h hq
            have := i.2 h0 hp
            omega
          · exact .inl ⟨Int.le_trans pq.1 i.1, i.2⟩
          · exact .inr i
theorem grp_all {l : List Pr} (o : ∀ q, q ∈ l → Ok q) (s : l.Pairwise After) : Canon (grp l) ∧ ∀ x, sem (grp l) x ↔ sem l x := by
  cases l with
  | nil => exact ⟨.nil, fun _ => Iff.rfl⟩
  | cons p r =>
    obtain ⟨e, t, h1, h2, _, h4⟩ := grp_ok o s
    rw [h1]
    exact ⟨h2, h4⟩
/-! .. by places -/
def saB (L Hs : List Int) (k : Nat) : Bool := decide (k = 0) || (decide (k ≤ Hs.length) && decide (Hs.getD (k - 1) 0 + 1 < L.getD k 0))
def en (Hs : List Int) (g : Nat) : Option Int := if g ≤ Hs.length then some (Hs.getD (g - 1) 0) else none
def res (L Hs : List Int) (n : Nat) : List Nat → List Pr
  | [] => []
  | [s] => [(L.getD s 0, en Hs n)]
  | s :: s' :: r => (L.getD s 0, en Hs s') :: res L Hs n (s' :: r)
theorem zp_len : ∀ {L Hs : List Int}, (zp L Hs).length = L.length
  | [], _ => rfl
  | _ :: ls, [] => congrArg (· + 1) (zp_len (L := ls) (Hs := []))
  | _ :: ls, _ :: hs => congrArg (· + 1) (zp_len (L := ls) (Hs := hs))
theorem en_succ {Hs : List Int} {a : Nat} : en Hs (a + 1) = Hs[a]? := by
  unfold en
  by_cases c : a + 1 ≤ Hs.length
  · rw [if_pos c, Nat.add_sub_cancel, List.getD_eq_getElem?_getD, List.getElem?_eq_getElem (by omega)]; rfl
  · rw [if_neg c, List.getElem?_eq_none (by omega)]
theorem zp_at {L Hs : List Int} {a : Nat} (h : a < L.length) : (zp L Hs).drop a = (L.getD a 0, Hs[a]?) :: (zp L Hs).drop (a + 1) := by
  have e : (zp L Hs)[a]? = some (L.getD a 0, Hs[a]?) := zp_get.mpr ⟨by rw [List.getD_eq_getElem?_getD, List.getElem?_eq_getElem h]; rfl, rfl⟩
  obtain ⟨h1, h2⟩ := List.getElem?_eq_some_iff.mp e
  rw [List.drop_eq_getElem_cons h1, h2]
theorem sa_anew {L Hs : List Int} {a : Nat} : saB L Hs (a + 1) = anew (L.getD a 0, Hs[a]?) (L.getD (a + 1) 0, Hs[a + 1]?) := by
  unfold saB anew
  rw [← en_succ (a := a)]
  unfold en
  by_cases c : a + 1 ≤ Hs.length
  · rw [if_pos c]; simp [c]
  · rw [if_neg c]; simp [c]
theorem res_from {L Hs : List Int} : ∀ (d a : Nat), a + d + 1 = L.length → res L Hs L.length (a :: (List.range' (a + 1) d).filter (saB L Hs)) = grp ((zp L Hs).drop a)
  | 0, a, h => by
    have z : (zp L Hs).drop (a + 1) = [] := List.drop_eq_nil_of_le (by rw [zp_len]; omega)
    rw [zp_at (by omega), z]
    show [(L.getD a 0, en Hs L.length)] = [(L.getD a 0, Hs[a]?)]
    rw [← h, en_succ]
  | d + 1, a, h => by
    have ih := res_from (L := L) (Hs := Hs) d (a + 1) (by omega)
    rw [zp_at (by omega), zp_at (a := a + 1) (by omega)]
    rw [zp_at (a := a + 1) (by omega)] at ih
    unfold grp
    rw [List.range'_succ, List.filter_cons, sa_anew, ← ih]
    by_cases c : anew (L.getD a 0, Hs[a]?) (L.getD (a + 1) 0, Hs[a + 1]?) = true
    · rw [if_pos c, if_pos c]
      show (L.getD a 0, en Hs (a + 1)) :: _ = _
      rw [en_succ]
    · rw [if_neg c, if_neg c]
      cases (List.range' (a + 1 + 1) d).filter (saB L Hs) with
      | nil => rfl
      | cons f r => rfl
theorem res_grp {L Hs : List Int} : res L Hs L.length ((List.range L.length).filter (saB L Hs)) = grp (zp L Hs) := by
  cases e : L.length with
  | zero =>
    have : L = [] := List.length_eq_zero_iff.mp e
    subst this
    rfl
  | succ n =>
    have := res_from (L := L) (Hs := Hs) n 0 (by omega)
    rw [List.drop_zero] at this
    rw [← this, e, List.range_eq_range', List.range'_succ, List.filter_cons, if_pos (show saB L Hs 0 = true from rfl)]
/-- what merged tells -/
theorem merged_ok {ps : List Pr} {L Hs : List Int} (o : ∀ p, p ∈ ps → Ok p) (pL : L.Perm (ps.map (·.1))) (pH : Hs.Perm (ps.filterMap (·.2))) (sL : L.Pairwise (· ≤ ·)) (sH : Hs.Pairwise (· ≤ ·)) :
    Canon (res L Hs L.length ((List.range L.length).filter (saB L Hs))) ∧ ∀ x, sem (res L Hs L.length ((List.range L.length).filter (saB L Hs))) x ↔ sem ps x := by
  rw [res_grp]
  have g := grp_all (zp_ok o pL pH sL sH) (zp_srt sL sH)
  exact ⟨g.1, fun x => (g.2 x).trans (zp_sem o pL pH sL sH x)⟩
/-! both, and the gaps -/
def early (a b : Option Int) : Option Int := match a, b with
  | none, o => o
  | some x, none => some x
  | some x, some y => some (min x y)
def com : List Pr → List Pr → List Pr
  | [], _ => []
  | _ :: _, [] => []
  | p :: a, q :: b =>
    let lo := max p.1 q.1
    let hi := early p.2 q.2
    let rest := if p.2 = hi then com a (q :: b) else com (p :: a) b
    if (∀ h, hi = some h → lo ≤ h) then (lo, hi) :: rest else rest
termination_by a b => a.length + b.length
theorem early_le {a b : Option Int} {x : Int} : (∀ h, early a b = some h → x ≤ h) ↔ (∀ h, a = some h → x ≤ h) ∧ ∀ h, b = some h → x ≤ h := by
  cases a with
  | none => cases b <;> simp [early]
  | some u =>
    cases b with
    | none => simp [early]
    | some v =>
      simp only [early, Option.some.injEq, forall_eq']
      omega
theorem max_le' {a b x : Int} : max a b ≤ x ↔ a ≤ x ∧ b ≤ x := by omega
theorem in_both {p q : Pr} {x : Int} : inP x (max p.1 q.1, early p.2 q.2) ↔ inP x p ∧ inP x q := by
  unfold inP
  rw [max_le', early_le]
  constructor
  · rintro ⟨⟨a, b⟩, c, d⟩
    exact ⟨⟨a, c⟩, b, d⟩
  · rintro ⟨⟨a, c⟩, b, d⟩
    exact ⟨⟨a, b⟩, c, d⟩
theorem com_ok : ∀ (a b : List Pr), Canon a → Canon b → (∀ x, sem (com a b) x ↔ sem a x ∧ sem b x) ∧ ∀ p, p ∈ com a b → Ok p
  | [], b, _, _ => by
    unfold com
    exact ⟨fun x => by simp [sem_nil], fun p h => nomatch h⟩
  | p :: a, [], _, _ => by
    unfold com
    exact ⟨fun x => by simp [sem_nil], fun p h => nomatch h⟩
  | p :: a, q :: b, ca, cb => by
    have key : ∀ rest : List Pr, (∀ x, sem rest x ↔ if p.2 = early p.2 q.2 then sem a x ∧ sem (q :: b) x else sem (p :: a) x ∧ sem b x) → (∀ u, u ∈ rest → Ok u) →
        (∀ x, sem (if (∀ h, early p.2 q.2 = some h → max p.1 q.1 ≤ h) then (max p.1 q.1, early p.2 q.2) :: rest else rest) x ↔ sem (p :: a) x ∧ sem (q :: b) x) ∧
        ∀ u, u ∈ (if (∀ h, early p.2 q.2 = some h → max p.1 q.1 ≤ h) then (max p.1 q.1, early p.2 q.2) :: rest else rest) → Ok u := by
      intro rest hr ho
      have head : ∀ x, sem (if (∀ h, early p.2 q.2 = some h → max p.1 q.1 ≤ h) then (max p.1 q.1, early p.2 q.2) :: rest else rest) x ↔ (inP x p ∧ inP x q) ∨ sem rest x := fun x => by
        by_cases c : ∀ h, early p.2 q.2 = some h → max p.1 q.1 ≤ h
        · rw [if_pos c, sem_cons, in_both]
        · rw [if_neg c]
          constructor
          · exact .inr
          · rintro (i | i)
            · have i := in_both.mpr i
              exact absurd (fun h e => Int.le_trans i.1 (i.2 h e)) c
            · exact i
      refine ⟨fun x => ?_, fun u hu => ?_⟩
      · rw [head x, hr x, sem_cons (p := p) (r := a), sem_cons (p := q) (r := b)]
        by_cases c : p.2 = early p.2 q.2
        · rw [if_pos c]
          have no : inP x p → sem b x → False := fun i s => by
            obtain ⟨h, e, hb⟩ := cb.sep s
            rw [e] at c
            cases ep : p.2 with
            | none => rw [ep] at c; cases c
            | some u =>
              rw [ep] at c
              have c : u = min u h := Option.some.inj c
              have := i.2 u ep
              omega
          constructor
          · rintro (⟨i, j⟩ | ⟨i, j⟩)
            · exact ⟨.inl i, .inl j⟩
            · exact ⟨.inr i, j⟩
          · rintro ⟨i | i, j⟩
            · rcases j with j | j
              · exact .inl ⟨i, j⟩
              · exact (no i j).elim
            · exact .inr ⟨i, j⟩
        · rw [if_neg c]
          have no : sem a x → inP x q → False := fun s i => by
            obtain ⟨h, e, hb⟩ := ca.sep s
            rw [e] at c
            cases eq : q.2 with
            | none => rw [eq] at c; exact c rfl
            | some u =>
              rw [eq] at c
              have c : ¬ h = min h u := fun z => c (congrArg some z)
              have := i.2 u eq
              omega
          constructor
          · rintro (⟨i, j⟩ | ⟨i, j⟩)
            · exact ⟨.inl i, .inl j⟩
            · exact ⟨i, .inr j⟩
          · rintro ⟨i, j | j⟩
            · rcases i with i | i
              · exact .inl ⟨i, j⟩
              · exact (no i j).elim
            · exact .inr ⟨i, j⟩
      · split at hu
        · rename_i c
          rcases List.mem_cons.mp hu with e | e
          · subst e
            exact ⟨by have := ca.ok.1; have := cb.ok.1; show 0 ≤ max p.1 q.1; omega, c⟩
          · exact ho u e
        · exact ho u hu
    unfold com
    by_cases c : p.2 = early p.2 q.2
    · have ih := com_ok a (q :: b) ca.tail cb
      have k := key (com a (q :: b)) (fun x => by rw [if_pos c]; exact ih.1 x) ih.2
      simp only [if_pos c]
      exact k
    · have ih := com_ok (p :: a) b ca cb.tail
      have k := key (com (p :: a) b) (fun x => by rw [if_neg c]; exact ih.1 x) ih.2
      simp only [if_neg c]
      exact k
termination_by a b => a.length + b.length
def gp (lo : Int) : List Pr → List Pr
  | [] => [(lo, none)]
  | p :: r => (if lo < p.1 then [(lo, some (p.1 - 1))] else []) ++ (match p.2 with
    | none => []
    | some u => gp (u + 1) r)
theorem gp_ok : ∀ (l : List Pr) (lo : Int), Canon l → 0 ≤ lo → (∀ x, sem l x → lo ≤ x) → (∀ x, sem (gp lo l) x ↔ lo ≤ x ∧ ¬ sem l x) ∧ ∀ p, p ∈ gp lo l → Ok p
  | [], lo, _, h0, _ => by
    refine ⟨fun x => ?_, fun p hp => ?_⟩
    · show sem [(lo, none)] x ↔ _
      rw [sem_cons]
      simp [sem_nil, inP]
    · rcases List.mem_cons.mp hp with e | e
      · subst e; exact ⟨h0, fun h e => nomatch e⟩
      · cases e
  | p :: r, lo, c, h0, hl => by
    have ok := c.ok
    have l1 := hl p.1 (sem_cons.mpr (.inl (in_low ok)))
    have first : ∀ x, sem (if lo < p.1 then [(lo, some (p.1 - 1))] else []) x ↔ lo ≤ x ∧ x < p.1 := fun x => by
      by_cases k : lo < p.1
      · rw [if_pos k, sem_cons]
        simp only [sem_nil, or_false, inP, Option.some.injEq, forall_eq']
        omega
      · rw [if_neg k]
        simp only [sem_nil, false_iff]
        omega
    have firsto : ∀ u, u ∈ (if lo < p.1 then [(lo, some (p.1 - 1))] else []) → Ok u := fun u hu => by
      split at hu
      · rcases List.mem_cons.mp hu with e | e
        · subst e; exact ⟨h0, fun h e => by cases e; show lo ≤ p.1 - 1; omega⟩
        · cases e
      · cases hu
    unfold gp
    cases e : p.2 with
    | none =>
      have hr : r = [] := by
        cases c with
        | one => rfl
        | cons _ bf _ =>
          obtain ⟨u, hu, _⟩ := bf
          rw [e] at hu; cases hu
      subst hr
      refine ⟨fun x => ?_, fun u hu => ?_⟩
      · rw [sem_append, first x, sem_cons]
        simp only [sem_nil, or_false, inP, e]
        constructor
        · rintro ⟨a, b⟩
          exact ⟨a, fun z => by have := z.1; omega⟩
        · rintro ⟨a, b⟩
          refine ⟨a, ?_⟩
          by_cases z : x < p.1
          · exact z
          · exact absurd ⟨by omega, fun h e => nomatch e⟩ b
      · rcases List.mem_append.mp hu with z | z
        · exact firsto u z
        · cases z
    | some u =>
      have ou := ok.2 u e
      have ih := gp_ok r (u + 1) c.tail (by have := ok.1; omega) fun x s => by
        obtain ⟨h, e', hb⟩ := c.sep s
        rw [e] at e'; cases e'; omega
      refine ⟨fun x => ?_, fun v hv => ?_⟩
      · rw [sem_append, first x, ih.1 x, sem_cons]
        have hin : inP x p ↔ p.1 ≤ x ∧ x ≤ u := by
          unfold inP; rw [e]; simp
        rw [hin]
        constructor
        · rintro (⟨a, b⟩ | ⟨a, b⟩)
          · refine ⟨a, fun z => ?_⟩
            rcases z with z | z
            · omega
            · obtain ⟨h, e', hb⟩ := c.sep z
              rw [e] at e'; cases e'; omega
          · refine ⟨by omega, fun z => ?_⟩
            rcases z with z | z
            · omega
            · exact b z
        · rintro ⟨a, b⟩
          by_cases z : x < p.1
          · exact .inl ⟨a, z⟩
          · refine .inr ⟨?_, fun s => b (.inr s)⟩
            by_cases y : x ≤ u
            · exact absurd (.inl ⟨by omega, y⟩) b
            · omega
      · rcases List.mem_append.mp hv with z | z
        · exact firsto v z
        · exact ih.2 v z
theorem gaps_ok {l : List Pr} (c : Canon l) : (∀ x, sem (gp 0 l) x ↔ 0 ≤ x ∧ ¬ sem l x) ∧ ∀ p, p ∈ gp 0 l → Ok p := gp_ok l 0 c (by omega) fun x s => c.nn s
/-! the gaps stand apart, too: common wants that -/
theorem gp_canon : ∀ (l : List Pr) (lo : Int), Canon l → 0 ≤ lo → (∀ x, sem l x → lo ≤ x) → Canon (gp lo l) ∧ (∀ x, sem (gp lo l) x → lo ≤ x) := by
  intro l lo c h0 hl
  have sem2 : ∀ x, sem (gp lo l) x → lo ≤ x := fun x s => (((gp_ok l lo c h0 hl).1 x).mp s).1
  refine ⟨?_, sem2⟩
  induction l generalizing lo with
  | nil => exact .one ⟨h0, fun h e => nomatch e⟩
  | cons p r ih =>
    have ok := c.ok
    have l1 := hl p.1 (sem_cons.mpr (.inl (in_low ok)))
    unfold gp
    cases e : p.2 with
    | none =>
      by_cases k : lo < p.1
      · rw [if_pos k]; exact .one ⟨h0, fun h e => by cases e; show lo ≤ p.1 - 1; omega⟩
      · rw [if_neg k]; exact .nil
    | some u =>
      have ou := ok.2 u e
      have hl2 : ∀ x, sem r x → u + 1 ≤ x := fun x s => by
        obtain ⟨h, e', hb⟩ := c.sep s
        rw [e] at e'; cases e'; omega
      have i := ih (u + 1) c.tail (by have := ok.1; omega) hl2 fun x s => (((gp_ok r (u + 1) c.tail (by have := ok.1; omega) hl2).1 x).mp s).1
      by_cases k : lo < p.1
      · rw [if_pos k]
        show Canon ((lo, some (p.1 - 1)) :: gp (u + 1) r)
        cases g : gp (u + 1) r with
        | nil => exact .one ⟨h0, fun h e => by cases e; show lo ≤ p.1 - 1; omega⟩
        | cons q t =>
          rw [g] at i
          have q1 : u + 1 ≤ q.1 := (((gp_ok r (u + 1) c.tail (by have := ok.1; omega) hl2).1 q.1).mp (by rw [g]; exact sem_cons.mpr (.inl (in_low i.ok)))).1
          exact .cons ⟨h0, fun h e => by cases e; show lo ≤ p.1 - 1; omega⟩ ⟨p.1 - 1, rfl, by omega⟩ i
      · rw [if_neg k]; exact i
/-! how many -/
open Classical in
noncomputable def card (P : Int → Prop) : Nat → Int
  | 0 => 0
  | n + 1 => card P n + (if P (n : Int) then 1 else 0)
open Classical in
theorem card_or {P Q : Int → Prop} : ∀ n, card (fun x => P x ∨ Q x) n + card (fun x => P x ∧ Q x) n = card P n + card Q n
  | 0 => rfl
  | n + 1 => by
    have := card_or (P := P) (Q := Q) n
    show card _ n + _ + (card _ n + _) = card _ n + _ + (card _ n + _)
    by_cases a : P (n : Int) <;> by_cases b : Q (n : Int) <;> simp only [a, b, or_true, true_or, or_false, and_true, and_false, false_and, if_true, if_false, or_self, and_self] <;> omega
open Classical in
theorem card_congr {P Q : Int → Prop} (h : ∀ x, P x ↔ Q x) (n : Nat) : card P n = card Q n := by
  rw [show P = Q from funext fun x => propext (h x)]
open Classical in
theorem card_none {P : Int → Prop} (h : ∀ x, ¬ P x) : ∀ n, card P n = 0
  | 0 => rfl
  | n + 1 => by
    show card P n + _ = 0
    rw [card_none h n, if_neg (h _)]
    rfl
open Classical in
theorem card_int {l h : Int} (h0 : 0 ≤ l) (hl : l ≤ h) : ∀ n : Nat, card (fun x => l ≤ x ∧ x ≤ h) n = if (n : Int) ≤ l then 0 else (if (n : Int) ≤ h then (n : Int) - l else h + 1 - l)
  | 0 => by rw [if_pos (by omega)]; rfl
  | n + 1 => by
    show card _ n + _ = _
    rw [card_int h0 hl n]
    split <;> split <;> split <;> (try split) <;> (try split) <;> omega
def sumc (l : List Pr) : Int := (l.map fun p => (p.2.getD 0) - p.1 + 1).sum
def Ended (l : List Pr) : Prop := ∀ p, p ∈ l → ∃ h, p.2 = some h
open Classical in
theorem sumc_card : ∀ {l : List Pr}, Canon l → Ended l → ∃ N : Nat, ∀ n : Nat, N ≤ n → sumc l = card (sem l) n
  | [], _, _ => ⟨0, fun n _ => (card_none (fun x => by simp [sem_nil]) n).symm⟩
  | p :: r, c, e => by
    obtain ⟨N, hN⟩ := sumc_card c.tail fun q hq => e q (List.mem_cons_of_mem _ hq)
    obtain ⟨h, hp⟩ := e p List.mem_cons_self
    have ok := c.ok
    have l1 := ok.2 h hp
    refine ⟨N + (h + 1).toNat, fun n hn => ?_⟩
    have k := card_or (P := fun x => inP x p) (Q := sem r) n
    have z : card (fun x => inP x p ∧ sem r x) n = 0 := card_none (fun x ⟨i, s⟩ => (c.rest.mp s).2 i) n
    have i : card (fun x => inP x p) n = h + 1 - p.1 := by
      rw [card_congr (Q := fun x => p.1 ≤ x ∧ x ≤ h) (fun x => by unfold inP; rw [hp]; simp), card_int ok.1 l1 n, if_neg (by omega), if_neg (by omega)]
    rw [card_congr (Q := fun x => inP x p ∨ sem r x) (fun x => sem_cons)]
    have s := hN n (by omega)
    show ((p.2.getD 0) - p.1 + 1) + sumc r = _
    rw [hp]
    show h - p.1 + 1 + sumc r = _
    omega
theorem sumc_law {a b u v : List Pr} (ca : Canon a) (cb : Canon b) (cu : Canon u) (cv : Canon v) (ea : Ended a) (eb : Ended b) (eu : Ended u) (ev : Ended v) (hu : ∀ x, sem u x ↔ sem a x ∨ sem b x) (hv : ∀ x, sem v x ↔ sem a x ∧ sem b x) :
    sumc u + sumc v = sumc a + sumc b := by
  obtain ⟨n1, h1⟩ := sumc_card ca ea
  obtain ⟨n2, h2⟩ := sumc_card cb eb
  obtain ⟨n3, h3⟩ := sumc_card cu eu
  obtain ⟨n4, h4⟩ := sumc_card cv ev
  have k := card_or (P := sem a) (Q := sem b) (n1 + n2 + n3 + n4)
  rw [h1 (n1 + n2 + n3 + n4) (by omega), h2 (n1 + n2 + n3 + n4) (by omega), h3 (n1 + n2 + n3 + n4) (by omega), h4 (n1 + n2 + n3 + n4) (by omega), card_congr hu, card_congr hv]
  exact k
/-- an end, by what is in -/
theorem ended_iff {l : List Pr} (c : Canon l) : Ended l ↔ ∃ N : Int, ∀ x, sem l x → x ≤ N := by
  constructor
  · intro e
    induction l with
    | nil => exact ⟨0, fun x s => (sem_nil.mp s).elim⟩
    | cons p r ih =>
      obtain ⟨N, hN⟩ := ih c.tail fun q hq => e q (List.mem_cons_of_mem _ hq)
      obtain ⟨h, hp⟩ := e p List.mem_cons_self
      refine ⟨max N h, fun x s => ?_⟩
      rcases sem_cons.mp s with i | i
      · have := i.2 h hp; omega
      · have := hN x i; omega
  · rintro ⟨N, hN⟩ p hp
    cases e : p.2 with
    | some h => exact ⟨h, rfl⟩
    | none =>
      have := hN (max (N + 1) p.1) ⟨p, hp, by show p.1 ≤ _; omega, fun h e' => by rw [e] at e'; cases e'⟩
      omega
/-! moved and spread -/
def plus (a b : Option Int) : Option Int := match a, b with
  | some x, some y => some (x + y)
  | _, _ => none
theorem spread_one {p : Pr} {k x : Int} {m : Option Int} (o : Ok p) (hm : ∀ u, m = some u → k ≤ u) : inP x (p.1 + k, plus p.2 m) ↔ ∃ y, inP y p ∧ k ≤ x - y ∧ ∀ u, m = some u → x - y ≤ u := by
  constructor
  · rintro ⟨h1, h2⟩
    have h1 : p.1 + k ≤ x := h1
    cases em : m with
    | none => exact ⟨p.1, in_low o, by omega, fun u e => nomatch e⟩
    | some u =>
      have ku := hm u em
      refine ⟨max p.1 (x - u), ⟨by omega, fun h e => ?_⟩, by omega, fun v e => by cases e; omega⟩
      have := o.2 h e
      have := h2 (h + u) (by rw [em, e]; rfl)
      omega
  · rintro ⟨y, ⟨a, b⟩, c, d⟩
    refine ⟨by show p.1 + k ≤ x; omega, fun h e => ?_⟩
    cases ep : p.2 with
    | none => rw [ep] at e; cases m <;> cases e
    | some w =>
      cases em : m with
      | none => rw [ep, em] at e; cases e
      | some u =>
        rw [ep, em] at e
        cases e
        have := b w ep
        have := d u em
        omega
def spr (l : List Pr) (k : Int) (m : Option Int) : List Pr := l.map fun p => (p.1 + k, plus p.2 m)
theorem spr_ok {k : Int} {m : Option Int} (hk : 0 ≤ k) (hm : ∀ u, m = some u → k ≤ u) : ∀ {l : List Pr}, (∀ p, p ∈ l → Ok p) → (∀ x, sem (spr l k m) x ↔ ∃ y, sem l y ∧ k ≤ x - y ∧ ∀ u, m = some u → x - y ≤ u) ∧ ∀ p, p ∈ spr l k m → Ok p
  | [], _ => ⟨fun x => by simp [spr, sem_nil], fun p h => nomatch h⟩
  | p :: r, o => by
    have ih := spr_ok hk hm (l := r) fun q hq => o q (List.mem_cons_of_mem _ hq)
    have op := o p List.mem_cons_self
    refine ⟨fun x => ?_, fun q hq => ?_⟩
    · show sem ((p.1 + k, plus p.2 m) :: spr r k m) x ↔ _
      rw [sem_cons, ih.1 x, spread_one op hm]
      constructor
      · rintro (⟨y, a, b⟩ | ⟨y, a, b⟩)
        · exact ⟨y, sem_cons.mpr (.inl a), b⟩
        · exact ⟨y, sem_cons.mpr (.inr a), b⟩
      · rintro ⟨y, a, b⟩
        rcases sem_cons.mp a with a | a
        · exact .inl ⟨y, a, b⟩
        · exact .inr ⟨y, a, b⟩
    · rcases List.mem_cons.mp hq with e | e
      · subst e
        refine ⟨by show 0 ≤ p.1 + k; have := op.1; omega, fun h e => ?_⟩
        show p.1 + k ≤ h
        have e : plus p.2 m = some h := e
        cases ep : p.2 with
        | none => rw [ep] at e; cases m <;> cases e
        | some w =>
          cases em : m with
          | none => rw [ep, em] at e; cases e
          | some u =>
            rw [ep, em] at e
            cases e
            have := op.2 w ep
            have := hm u em
            omega
      · exact ih.2 q e
end ST
/-! bool of an own object and of a tuple; classes made by a promise with a star; enumerate of a tuple -/
namespace AF
open PySem PySem.Spec PyProof.Rows L2
open AutoSeq1 (wpAny_loadPart')
theorem meets_bool_any {prog : Program} {w : World} (x : Value) : MeetsIn prog w (Builtin.«bool.__new__» ⟨[.type "bool", x], []⟩) (fun A R s => wpAny (model prog w) A.in1 (truthy x) (fun b s' => R (.ok (.ret (.bool b))) s') (fun e s' => R (.error e) s') s) := by
  intro A R s h
  have f1 := F.conv_sub_bool
  repeat (any_goals (first | (refine wpAny_bind (wpAny_mono h ?_ ?_)) | wp_step))
  · exact fun b s' hR => wpAny_pure hR
  · exact fun _ _ h => h
theorem meets_enumerate_newT (l : Addr) (items : Array Value) (n : Nat) (dct : Option Addr) (sl : Array (Option Value)) :
    Meets (Builtin.«enumerate.__new__» ⟨[.type "enumerate", .ref l], []⟩) (fun _ R s => s.heap.get? l = some { cls := .type "tuple", dict := dct, data := .seq items n, slots := sl } ∧
      R (.ok (.ret (.ref (s.heap.push { cls := .type "tuple_iterator", data := .fields #[.ref l, .int 0 0] }).objs.size)))
        { s with heap := (s.heap.push { cls := .type "tuple_iterator", data := .fields #[.ref l, .int 0 0] }).push { cls := .type "enumerate", data := .fields #[.none, .bool false, .ref s.heap.objs.size, rawInt 0, .none, .none] } }) :=
  .of_wp fun prog w A R s h => by
    obtain ⟨hp, g, d, tk, os⟩ := s; obtain ⟨hl, h⟩ := h
    have hsub := sub_enumerate
    have hL : Heap.IsTuple (Shared.heap ⟨hp, g, d, tk, os⟩) l items := ⟨_, hl, rfl, n, rfl⟩
    wp_walk using wpAny_loadPart' hl
    refine wpAny_stack_any fun st => wpAny_pure ?_
    split
    · rename_i c _ _ _ _ _
      cases (c == Value.type "enumerate")
      · wp_walk using wpAny_loadPart' hl, wpAny_pyIter_tuple hL
        exact ⟨_, rfl, h⟩
      · wp_walk using wpAny_loadPart' hl, wpAny_pyIter_tuple hL
        exact ⟨_, rfl, h⟩
    · wp_walk using wpAny_loadPart' hl, wpAny_pyIter_tuple hL
      exact ⟨_, rfl, h⟩
theorem call_enumerate_tuple {prog : Program} {w : World} {A : Around} {E : Value → Shared → Prop} {s : Shared} {l : Addr} {items : Array Value} {Q : Value → Shared → Prop} (hL : s.heap.IsTuple l items)
    (h : ∀ h', IsEnum h' (s.heap.objs.size + 1) s.heap.objs.size 0 .none → h'.IsTupleIter s.heap.objs.size l 0 → h'.objs.size = s.heap.objs.size + 2 →
      (∀ b o, s.heap.get? b = some o → h'.get? b = some o) → Q (.ref (s.heap.objs.size + 1)) { s with heap := h' }) :
    wpAny (model prog w) A (call (.type "enumerate") [.ref l]) Q E s := by
  obtain ⟨⟨c, dct, dt, sl⟩, hl, hc, n, hd⟩ := hL
  replace hc : c = .type "tuple" := hc
  replace hd : dt = .seq items n := hd
  subst hc hd
  refine callType_new F.called_enumerate (by decide) (F.typeCall_enumerate_1 _) (F.newCall_enumerate_1 _) (fun obj => F.args_object_init_2 obj _) F.entry_enumerate_new
    (meets_enumerate_newT l items n dct sl) ⟨hl, ?_⟩
  have hz : (s.heap.push { cls := .type "tuple_iterator", data := .fields #[.ref l, .int 0 0] }).objs.size = s.heap.objs.size + 1 := Heap.size_push ..
  show _ ∧ _
  rw [hz]
  have he : IsEnum ((s.heap.push { cls := .type "tuple_iterator", data := .fields #[.ref l, .int 0 0] }).push
      { cls := .type "enumerate", data := .fields #[.none, .bool false, .ref s.heap.objs.size, rawInt 0, .none, .none] }) (s.heap.objs.size + 1) s.heap.objs.size 0 .none := by
    have := Heap.get?_push_size (s.heap.push { cls := .type "tuple_iterator", data := .fields #[.ref l, .int 0 0] })
      (o := { cls := .type "enumerate", data := .fields #[.none, .bool false, .ref s.heap.objs.size, rawInt 0, .none, .none] }) rfl
    rw [hz] at this; exact this
  refine ⟨⟨_, he, rfl⟩, h _ he ⟨_, Heap.get?_push_of_some _ (Heap.get?_push_size _ rfl), rfl, rfl⟩ (by rw [Heap.size_push, hz]) fun b o x => Heap.get?_push_of_some _ (Heap.get?_push_of_some _ x)⟩
/-- the tuple at a, each item in a new pair with its place -/
def Iten (K : PySem.W.Frag) (a : Addr) : It :=
  ⟨fun i H => ∃ (xs : List V) (x : V), SqT K H a xs ∧ xs[i]? = some x, fun i H v H' => ∃ T x, v = .ref T ∧ H T = none ∧ H' = upd H T (.tup [.int (i : Nat), x]) ∧ ∀ xs, SqT K H a xs → xs[i]? = some x, fun i H => ∃ xs : List V, SqT K H a xs ∧ xs.length ≤ i⟩
theorem turn_enumT {P : Program} {w : World} {K : PySem.W.Frag} {elts : List Expr} {kk : Nat} {tpos : Pos} (a e it : Addr) :
    Turn P w K (.Tuple elts kk tpos) (Iten K a) [e, it] e (fun i h => (∃ old, IsEnum h e it ((i : Nat) : Int) old) ∧ h.IsTupleIter it a i ∧ e ≠ it) where
  mem := by simp
  obj := fun i h st b hb => by
    obtain ⟨⟨old, he⟩, ⟨o, ho, hc, hd⟩, _⟩ := st
    have e' : b = e ∨ b = it := by simpa using hb
    rcases e' with z | z
    · rw [z]; exact ⟨_, he, fun v q => nomatch q⟩
    · rw [z]; exact ⟨o, ho, fun v q => by rw [hd] at q; cases q⟩
  keep := fun i h h' st k => let ⟨⟨old, he⟩, hi, hne⟩ := st; ⟨⟨old, k e (by simp) _ he⟩, hi.at fun o q => k it (by simp) o q, hne⟩
  item := by
    intro X hP hw hK hc i pins s σ H E I hf st hg
    subst hP hw hK
    obtain ⟨⟨old, he⟩, hit, hne⟩ := st
    obtain ⟨xs, x, hq, hx⟩ := hg
    obtain ⟨its, rv, p, hz⟩ := I.tuple hq
    obtain ⟨u, hu, ru⟩ := rv.get hx
    have hel : e < s.heap.objs.size := Heap.lt_size he
    have hil : it < s.heap.objs.size := by obtain ⟨_, q, _⟩ := hit; exact Heap.lt_size q
    have hap : a ≠ it := by
      intro z
      subst z
      obtain ⟨o1, q1, c1, _⟩ := hit
      have hT : s.heap.IsTuple a its.toArray := p
      obtain ⟨o2, q2, c2, _⟩ := hT
      have ee := q1.symm.trans q2
      injection ee with ee
      subst ee
      rw [c1] at c2
      revert c2
      decide
    have hae : e ≠ a := by
      intro z
      subst z
      have hT : s.heap.IsTuple e its.toArray := p
      obtain ⟨o2, q2, c2, _⟩ := hT
      have ee := he.symm.trans q2
      injection ee with ee
      subst ee
      revert c2
      show ¬ (Value.type "enumerate" = Value.type "tuple")
      decide
    have hlt : i < its.toArray.size := by
      have := (List.getElem?_eq_some_iff.mp hu).1
      simpa using this
    have hmem : e ∉ [it, a] := by
      intro z
      rcases List.mem_cons.mp z with z | z
      · exact hne z
      · exact hae (by simpa using z)
    refine wpAny_pyNext_enum_itemD (A := X.A) (Draws.tuple (A := X.A.in1) (show X.A.in1.handled = none from I.ok.hd hc) it a hap its.toArray) he ⟨hit, p⟩ hlt hne hmem fun u' h' tk hu' ho st' hT hsz hk => ?_
    have eu : u' = u := by
      have := hu'.symm.trans (show its.toArray[i]? = some u by simpa using hu)
      injection this
    subst eu
    refine ⟨_, rfl, wpAny_letOwnedTupleGo_enum (s := { s with heap := h', toks := tk + 1 }) ho fun h'' he' sb => ?_⟩
    have hT2 : h''.get? s.heap.objs.size = some { cls := .type "tuple", data := .seq #[.int i tk, u'] } := (sb.2 _ (Nat.ne_of_gt hel)).trans hT
    have new : ObjOk X.prog X.w (upd H s.heap.objs.size (.tup [.int (i : Nat), x])) h'' s.heap.objs.size (.tup [.int (i : Nat), x]) :=
      ⟨by show 2 ≤ sizeLine; decide, [.int i tk, u'], .cons ⟨_, rfl⟩ (.cons ru .nil), ⟨_, hT2, rfl, _, rfl⟩⟩
    have I1 : Inv X pins σ (upd H s.heap.objs.size (.tup [.int (i : Nat), x])) { s with heap := h'', toks := tk + 1 } :=
      I.turnedNew (ch := [e, it]) (fun b ob hb q => (sb.2 b (fun z => hb (by simp [z]))).trans (hk b ob (fun z => hb (by simp [z])) (fun z => hb (by simp [z])) q)) hf (Nat.le_refl _) new
    refine ⟨.ref s.heap.objs.size, _, I1, rfl, ⟨_, x, rfl, I.hok.fresh (Nat.le_refl _), rfl, fun ys hy => by rw [I.tuple_inj hy hq]; exact hx⟩, ⟨⟨u', ?_⟩, st'.1.at fun o q => (sb.2 it (Ne.symm hne)).trans q, hne⟩, fun b hb => ?_⟩
    · have e1 : ((i + 1 : Nat) : Int) = (i : Int) + 1 := by omega
      rw [e1]; exact he'
    · have hb' : b < s.heap.objs.size := by
        have e' : b = e ∨ b = it := by simpa using hb
        rcases e' with z | z
        · rw [z]; exact hel
        · rw [z]; exact hil
      rw [upd_ne (Nat.ne_of_lt hb')]
      exact (hf b hb).1
  done := by
    intro X hP hw hK hc i pins s σ H E I hf st hg
    subst hP hw hK
    obtain ⟨⟨old, he⟩, hit, hne⟩ := st
    obtain ⟨xs, hq, hx⟩ := hg
    obtain ⟨its, rv, p, hz⟩ := I.tuple hq
    obtain ⟨f0, f1, f2, f3, f4, f5⟩ := hf it (by simp)
    have hl := rv.length
    have hT : s.TypeIs (.ref e) "enumerate" := ⟨_, he, rfl⟩
    unfold pyNext
    refine wpAny_bind (wpAny_attempt (wpAny_callSpecial?_slot (name := Str.ofString "__next__") hT F.slot_enumerate_next
      (wpAny_call_entry F.slot_enumerate_next hT F.entry_enumerate_next ?_ (F.args_enumerate_next_1 _))))
    show wpAny _ _ (field (.ref e) 2 >>= _) _ _ _
    refine wpAny_bind (wpAny_field he rfl (x := .ref it) rfl ?_)
    refine wpAny_bind (wpAny_nextOf_tuple_end (A := X.A.in1) (items := its.toArray) (show X.A.in1.handled = none from I.ok.hd hc) hit p (by simp; omega) fun h' x he' hx' => ?_)
    obtain ⟨o, ho, hc'⟩ := hx'
    refine wpAny_bind (wpAny_isInstance (T := "StopIteration") (b := true) ⟨o, ho, hc'⟩ isSubtype_stop ?_)
    exact wpAny_pure ⟨rfl, I.turned (t' := s.toks) (fun b o hb q => he' b o hb q) f0 f1 f3 f4 f5⟩
  self := fun A i s Q E st h => let ⟨⟨_, he⟩, _⟩ := st; wpAny_pyIter_enum he h
end AF
/-! rules: enumerate of a tuple, bool, classes made by a star, the steps of the loops -/
namespace AF
open PySem PySem.Spec PyProof.Rows L2
def iEnumT (K : PySem.W.Frag) (ta : TA) : TI := fun σ H R => ta σ H fun vs H1 => ∃ a xs, vs = [.ref a] ∧ SqT K H1 a xs ∧ R (Iten K a) H1
theorem pi_enumT {X : Cx} {e : Expr} {ta : TA} {p pos tpos : Pos} {elts : List Expr} {kk : Nat} (hg : Gl X "enumerate") (hm : X.mg "enumerate" = none) (ha : PA X [e] ta) (hs : starEach [e] X.env = [(false, eval e X.env)] := by rfl) :
    PI X (.Tuple elts kk tpos) (.Call (.Name "enumerate" p) [e] [] pos) (iEnumT X.K ta) := by
  refine ⟨fun pins s σ H R I h => ?_⟩
  refine Call_ (ld_blt I hg hm boot_enumerate (PyProof.Rows.callWith_type1 (thn (ha.run pos pins s σ H _ I h) fun us s1 ⟨vs, H1, I1, r1, q1⟩ => ?_) hs rfl))
  obtain ⟨a, xs, ex, hq, q⟩ := q1
  subst ex
  cases r1 with
  | cons r rr =>
    cases rr
    cases r
    obtain ⟨its, rv, p', hz⟩ := I1.tuple hq
    refine call_enumerate_tuple (items := its.toArray) p' fun h' he hit hsz hk => wpAny_pyIter_enum he ?_
    have I2 : Inv X pins σ H1 { s1 with heap := h' } := I1.kept (t' := s1.toks) hk
    refine ⟨s1.heap.objs.size + 1, [s1.heap.objs.size + 1, s1.heap.objs.size], _, _, H1, rfl, I2, turn_enumT a (s1.heap.objs.size + 1) s1.heap.objs.size, ⟨⟨.none, he⟩, hit, Nat.succ_ne_self _⟩, fun b hb => ?_, q⟩
    have e' : b = s1.heap.objs.size + 1 ∨ b = s1.heap.objs.size := by simpa using hb
    have hle : s1.heap.objs.size ≤ b := by
      rcases e' with z | z
      · rw [z]; exact Nat.le_add_right _ _
      · rw [z]; exact Nat.le_refl _
    exact I1.fpOk hle (I1.hok.fresh hle)
/-- bool(x) of a tuple -/
def rBoolT (K : PySem.W.Frag) : List V → Hp → VK → Prop := fun xs H Q => ∃ a ys, xs = [.ref a] ∧ SqT K H a ys ∧ Q (.bl (!ys.isEmpty)) H
theorem cl_boolT {X : Cx} : CallR X (.type "bool") (rBoolT X.K) := by
  intro pins s σ H xs us Q I r h
  obtain ⟨a, ys, rfl, hx, q⟩ := h
  have hl := line63
  obtain ⟨u, rfl, rx⟩ := vals1 r
  cases rx
  obtain ⟨its, rv, pl, hz⟩ := I.tuple hx
  have hlen := rv.length
  refine callType_newIn PySem.F.called_bool PySem.F.newNe_bool (PySem.F.typeCall_bool_1 _) (PySem.F.newCall_bool_1 _) (fun obj => PySem.F.args_object_init_2 obj _) PySem.F.entry_bool_new (meets_bool_any _) ?_
  show wpAny _ _ _ _ _ _
  exact truthy_tuple pl (by simp only [List.size_toArray]; omega) ⟨rfl, .bl (!ys.isEmpty), H, I.tok _, by rw [isEmpty_of rv]; rfl, q⟩
theorem run_fnA {X : Cx} {k : Nat} {f : Addr} {fd : FuncData} {ps : List Str} {sp : Sp} {E : XK} {A : Around} {pins : List (Addr × Obj)} {σ : L2.St} {H : Hp} {s : Shared} {Q : VK} {us : List Value} {vs : List V} (F : FnOk X.prog X.w X.K X.mg X.base (L2.CX X.prog X.w) k f fd ps sp) (hr : Room k A) (hb : Binds X.K fd ps [])
    (e0 : Env0 X.prog X.w X.K X.mg X.base A X.stack s H) (hx : Passes (L2.CX X.prog X.w) X E) (I : L2.Inv X pins σ H s) (r : Vals vs us) (h : sp vs H Q E) : wpAny (model X.prog X.w) A (call (.ref f) us) (EP X pins σ Q) X.xe s := by
  have r2 : Vals vs (us ++ []) := by rw [List.append_nil]; exact r
  have hl : (us ++ []).length = ps.length := by rw [← r2.length]; exact F.len _ _ _ _ h
  refine wpAny_call (codeAny_mono (F.run A X.stack s H ⟨us, []⟩ (us ++ []) vs Q E hr e0 (hb s us I.kIn hl) r2 h) fun r s' hq => ?_)
  cases r with
  | error e => exact hx pins σ H s e s' I hq
  | ok fl =>
    cases fl with
    | ret u => exact I.after hq
    | next => exact False.elim hq
    | brk => exact False.elim hq
    | cont => exact False.elim hq
/-- bool(x) of an instance -/
structure BoolO (K : PySem.W.Frag) (C f : Addr) : Prop where
  at_ : PySem.W.findIn K (.ref C) "__bool__" = some (some (.ref f))
  fn : PySem.W.isFn K (.ref f) = true
def rBoolO (C : Addr) (sp : Sp) (E : XK) : List V → Hp → VK → Prop := fun xs H Q => ∃ a dx fs, xs = [.ref a] ∧ H a = some (.ins C dx fs) ∧ sp [.ref a] H (fun z H' => ∃ b, z = .bl b ∧ Q (.bl b) H') E
theorem cl_boolO {X : Cx} {k : Nat} {f C : Addr} {ps : List Str} {sp : Sp} {E : XK} (B : BoolO X.K C f) (D : Dn X.prog X.w X.K X.mg X.base k f ps sp) (hr : Room (k + 2) X.A) (hx : Passes (L2.CX X.prog X.w) X E) : CallR X (.type "bool") (rBoolO C sp E) := by
  intro pins s σ H xs us Q I r h
  obtain ⟨a, dx, fs, rfl, ha, q⟩ := h
  obtain ⟨fd, F, b⟩ := D.ex
  obtain ⟨u, rfl, rx⟩ := vals1 r
  cases rx
  obtain ⟨mA, O, _⟩ := ins_get I.hok ha
  obtain ⟨od, J, _⟩ := O.look
  obtain ⟨m, hF⟩ := I.fr
  refine callType_newIn PySem.F.called_bool PySem.F.newNe_bool (PySem.F.typeCall_bool_1 _) (PySem.F.newCall_bool_1 _) (fun obj => PySem.F.args_object_init_2 obj _) PySem.F.entry_bool_new (meets_bool_any _) ?_
  show wpAny _ _ _ _ _ _
  have hr2 : Room k X.A.in1.in1 := (show Room (k + 1) X.A.in1 from Room.in1 hr).in1
  refine PySem.W.truthy_K hF I.ok.mod.kin J B.at_ B.fn ?_
  refine wpAny_mono (run_fnA F hr2 b I.env0.in1.in1 hx I (Paired.cons (show RelV (.ref a) (.ref a) from rfl) .nil) q) (fun w s' z => ?_) fun _ _ x => x
  obtain ⟨z', H', I', rz, c, ec, qz⟩ := z
  subst ec
  cases rz
  exact ⟨rfl, .bl c, H', I', rfl, qz⟩
section
variable {X : Cx} {k : Nat} {f C : Addr} {sp : Sp} {E : XK} {x : Str} {e : Expr} {es : List Expr} {te : TE} {t : TA} {p pos sp_ : Pos}
/-- a class whose __init__ keeps a promise (with a star) -/
structure Ms (P : Program) (w : World) (K : PySem.W.Frag) (mg : Str → Option Value) (base : Heap) (k : Nat) (C : Addr) (sp : Sp) : Prop where
  ex : ∃ f, FnR P w K mg base (L2.CX P w) k f sp ∧ Mk K C f
def kMakeS (K : PySem.W.Frag) (C : Addr) (sp : Sp) (E : XK) (Q : VK) (y : V) (H : Hp) : Prop := ∃ a xs, y = .ref a ∧ (SqT K H a xs ∨ SqL K H a xs) ∧ kMake C sp E Q xs H
def tMk (C : Addr) (sp : Sp) (E : XK) (t : TA) : TE := fun σ H Q => t σ H (kMake C sp E Q)
theorem pe_mkR (D : Ms X.prog X.w X.K X.mg X.base k C sp) (hr : Room (k + 1) X.A) (hg : Gl X x) (hm : X.mg x = some (.ref C)) (hx : Passes (L2.CX X.prog X.w) X E) (ha : PA X (e :: es) t) (hdb : (x == ("__debug__" : Str)) = false := by decide)
    (he : starEach (e :: es) X.env = (false, eval e X.env) :: starEach es X.env := by rfl) (hpl : (backTo pos (starEach es X.env)).any (·.1) = false := by rfl) : PE X (.Call (.Name x p) (e :: es) [] pos) (tMk C sp E t) := by
  obtain ⟨f, F, M⟩ := D.ex
  refine ⟨fun pins s σ H Q I h => ?_⟩
  refine wpAny_Call_Name_kw (ld_glob I hg hm ?_ hdb)
  refine PySem.W.callWith_K (h₀ := X.base) I.ok.mod.kin M.kp (thn (ha.run pos pins s σ H _ I h) fun us s1 ⟨vs, H1, I1, r, q⟩ => ⟨I1.kIn, ?_⟩) he hpl
  exact StX.run_makeR M F hr hx I1 r q
theorem pe_mk0 (D : Ms X.prog X.w X.K X.mg X.base k C sp) (hr : Room (k + 1) X.A) (hg : Gl X x) (hm : X.mg x = some (.ref C)) (hx : Passes (L2.CX X.prog X.w) X E) (hdb : (x == ("__debug__" : Str)) = false := by decide) :
    PE X (.Call (.Name x p) [] [] pos) (tMk C sp E tNil) := by
  obtain ⟨f, F, M⟩ := D.ex
  refine ⟨fun pins s σ H Q I h => ?_⟩
  refine wpAny_Call_Name_kw (ld_glob I hg hm ?_ hdb)
  exact PySem.W.callWith_K0 I.kIn M.kp (StX.run_makeR M F hr hx I .nil h)
def tMkS (K : PySem.W.Frag) (C : Addr) (sp : Sp) (E : XK) (te : TE) : TE := fun σ H Q => te σ H (kMakeS K C sp E Q)
theorem pe_mkS (D : Ms X.prog X.w X.K X.mg X.base k C sp) (hr : Room (k + 1) X.A) (hg : Gl X x) (hm : X.mg x = some (.ref C)) (hx : Passes (L2.CX X.prog X.w) X E) (he : PE X e te) (hdb : (x == ("__debug__" : Str)) = false := by decide)
    (hst : starEach [.Starred e sp_] X.env = [(true, eval e X.env)] := by rfl) : PE X (.Call (.Name x p) [.Starred e sp_] [] pos) (tMkS X.K C sp E te) := by
  obtain ⟨f, F, M⟩ := D.ex
  refine ⟨fun pins s σ H Q I h => ?_⟩
  refine wpAny_Call_Name_kw (ld_glob I hg hm ?_ hdb)
  refine PySem.W.callWith_S (h₀ := X.base) I.ok.mod.kin M.kp (thn (he.run pins s σ H _ I h) fun v s1 ⟨y, H1, I1, ry, a, xs, ey, hxs, q⟩ => ?_) hst
  subst ey
  obtain rfl : v = Value.ref a := ry
  exact StX.star_any I1 hxs fun us s2 I2 rv => ⟨I2.kIn, StX.run_makeR M F hr hx I2 rv q⟩
end
/-- def f(p, *v): its promise -/
theorem okStar {P : Program} {w : World} {K : PySem.W.Frag} {mg : Str → Option Value} {base : Heap} {n q : Str} {params : Arguments} {body : List Stmt} {scope : Scope} {f : Addr} {fd : FuncData} {N : List Str} {p1 pv : Str} {k : Nat} {sp : Sp}
    (F : FunD K n q params body scope [] [] f fd) (S : FnScope N [p1, pv] scope)
    (h0 : ∀ (kV doc pm : Value) (an : Option Addr) (cdv ct : Value) (a : Value), bindArgs (PySem.W.fnOf n q params body scope .none kV doc pm an cdv ct) ⟨[a], []⟩ = (newTuple [] >>= fun t => pure [(p1, a), (pv, t)]))
    (h1 : ∀ (kV doc pm : Value) (an : Option Addr) (cdv ct : Value) (a r : Value) (rs : List Value), bindArgs (PySem.W.fnOf n q params body scope .none kV doc pm an cdv ct) ⟨a :: r :: rs, []⟩ = (newTuple (r :: rs) >>= fun t => pure [(p1, a), (pv, t)]))
    (hbody : ∀ (cdv : Value) (A : Around) (outer : List Env) (s : Shared) (H : Hp) (vs : List V) (Q : VK) (E : XK), Room k (A.deeper (envOfC q scope s.heap.objs.size f cdv)) → sp vs H Q E →
      ∃ t, PSs (cxOf (L2.CX P w) P w K mg base N q scope f cdv A outer s H E) body t ∧ t { nx := fun _ H' => Q .non H', rt := Q } (start N vs) H) :
    FnR P w K mg base (L2.CX P w) (k + 1) f (fun vs H Q E => ∃ ws rest, vs = ws ++ rest ∧ ws.length = [p1].length ∧ rest.length ≤ sizeLine ∧ ∀ p, H p = Option.none → sp (ws ++ [V.ref p]) (upd H p (.tup rest)) Q E) := by
  obtain ⟨oc, od, dV, kV, doc, pm, an, cdv, ct, osl, rfl, lk, hcd, hd, _⟩ := F.ex
  have e : dV = .none := by
    rcases hd with ⟨_, e⟩ | ⟨e, _⟩
    · exact e
    · exact absurd rfl e
  subst e
  exact StX.fn_star (ps := [p1]) (pv := pv) lk hcd S StX.cxUp (StX.bind_star1 (B := fun l => bindArgs (PySem.W.fnOf n q params body scope .none kV doc pm an cdv ct) ⟨l, []⟩) (p1 := p1) (pv := pv) (h0 kV doc pm an cdv ct) (h1 kV doc pm an cdv ct)) fun A outer s H vs Q E hr hsp => hbody cdv A outer s H vs Q E hr hsp
/-! the loops, by an own word -/
/-- for .. in enumerate(t), t a tuple that stays: by a word for each place -/
theorem for_enT {K : PySem.W.Frag} {a : Addr} {xs : List V} {g : TG} {tb : TS} {D : Ends} {σ : L2.St} {H : Hp} (Pv : Nat → L2.St → Hp → Prop) (h0 : Pv 0 σ H) (hl : ∀ i σ H, i ≤ xs.length → Pv i σ H → SqT K H a xs)
    (hs : ∀ i x σ H T, xs[i]? = some x → Pv i σ H → H T = none → g (.ref T) σ (upd H T (.tup [.int (i : Nat), x])) fun σ2 H2 => tb { D with nx := Pv (i + 1), ct := Pv (i + 1), bk := D.nx } σ2 H2) (hd : ∀ σ H, Pv xs.length σ H → D.nx σ H) : ForOk (Iten K a) g tb D σ H := by
  refine ⟨fun i m σ H => m = xs.length - i ∧ i ≤ xs.length ∧ Pv i σ H, ⟨xs.length, by simp, Nat.zero_le _, h0⟩, ?_⟩
  rintro i m σ H ⟨rfl, hi, p⟩
  have q := hl i σ H hi p
  by_cases hlt : i < xs.length
  · refine .inr ⟨⟨xs, xs[i], q, by simp [hlt]⟩, Pv (i + 1), fun σ' H' p' => ⟨xs.length - (i + 1), by omega, rfl, hlt, p'⟩, fun x H' y => ?_⟩
    obtain ⟨T, z, rfl, hT, rfl, y⟩ := y
    exact hs i z σ H T (y xs q) p hT
  · have e : i = xs.length := by omega
    subst e
    exact .inl ⟨⟨xs, q, Nat.le_refl _⟩, hd σ H p⟩
theorem for_enL {K : PySem.W.Frag} {a : Addr} {xs : List V} {g : TG} {tb : TS} {D : Ends} {σ : L2.St} {H : Hp} (Pv : Nat → L2.St → Hp → Prop) (h0 : Pv 0 σ H) (hl : ∀ i σ H, i ≤ xs.length → Pv i σ H → SqL K H a xs)
    (hs : ∀ i x σ H T, xs[i]? = some x → Pv i σ H → H T = none → g (.ref T) σ (upd H T (.tup [.int (i : Nat), x])) fun σ2 H2 => tb { D with nx := Pv (i + 1), ct := Pv (i + 1), bk := D.nx } σ2 H2) (hd : ∀ σ H, Pv xs.length σ H → D.nx σ H) : ForOk (Ite K a) g tb D σ H := by
  refine ⟨fun i m σ H => m = xs.length - i ∧ i ≤ xs.length ∧ Pv i σ H, ⟨xs.length, by simp, Nat.zero_le _, h0⟩, ?_⟩
  rintro i m σ H ⟨rfl, hi, p⟩
  have q := hl i σ H hi p
  by_cases hlt : i < xs.length
  · refine .inr ⟨⟨xs, xs[i], q, by simp [hlt]⟩, Pv (i + 1), fun σ' H' p' => ⟨xs.length - (i + 1), by omega, rfl, hlt, p'⟩, fun x H' y => ?_⟩
    obtain ⟨T, z, rfl, hT, rfl, y⟩ := y
    exact hs i z σ H T (y xs q) p hT
  · have e : i = xs.length := by omega
    subst e
    exact .inl ⟨⟨xs, q, Nat.le_refl _⟩, hd σ H p⟩
section
variable {K : PySem.W.Frag} {σ : L2.St} {H : Hp} {Q : VK} {ta : TA} {te td : TE} {g : TG} {tb : TS} {D : Ends} {r : V → List V → Hp → VK → Prop} {T : String} {x : V} {QB : Bool → Hp → Prop} {C : Addr} {sp : Sp} {E : XK}
def kEnT (K : PySem.W.Frag) (g : TG) (tb : TS) (D : Ends) (σ : L2.St) (vs : List V) (H1 : Hp) : Prop := ∃ a xs, vs = [.ref a] ∧ SqT K H1 a xs ∧ ForOk (Iten K a) g tb D σ H1
def kEnL (K : PySem.W.Frag) (g : TG) (tb : TS) (D : Ends) (σ : L2.St) (vs : List V) (H1 : Hp) : Prop := ∃ a xs, vs = [.ref a] ∧ SqL K H1 a xs ∧ ForOk (Ite K a) g tb D σ H1
instance : Step (tFor (iEnumT K ta) g tb D σ H) (ta σ H (kEnT K g tb D σ)) := ⟨fun h => h⟩
instance : Step (tFor (iEnum K ta) g tb D σ H) (ta σ H (kEnL K g tb D σ)) := ⟨fun h => h⟩
def kNotT (K : PySem.W.Frag) (Q : VK) (x : V) (H : Hp) : Prop := ∃ k, TruV K x H k ∧ Q (.bl (!k)) H
instance : Step (tNotT K te σ H Q) (te σ H (kNotT K Q)) := ⟨fun h => h⟩
instance : Step (tMk C sp E ta σ H Q) (ta σ H (kMake C sp E Q)) := ⟨fun h => h⟩
instance : Step (tMkS K C sp E te σ H Q) (te σ H (kMakeS K C sp E Q)) := ⟨fun h => h⟩
end
end AF
/-! sets of counts on the heap -/
namespace AF
open PySem PySem.Spec PyProof.Rows L2
open ST (Pr Ok sem Canon com gp early plus spr saB en sumc Ended)
def ov : Option Int → V
  | none => .non
  | some h => .int h
def Up (H H' : Hp) : Prop := ∀ b o, H b = some o → H' b = some o
def UpX (x : Addr) (H H' : Hp) : Prop := ∀ b o, b ≠ x → H b = some o → H' b = some o
theorem Up.rfl' {H : Hp} : Up H H := fun _ _ h => h
theorem Up.trans {H H1 H2 : Hp} (a : Up H H1) (b : Up H1 H2) : Up H H2 := fun p o h => b p o (a p o h)
theorem Up.new {H : Hp} {p : Addr} {o : HO} (h : H p = none) : Up H (upd H p o) := fun b u e => by
  rw [upd_ne (fun z => by rw [z] at e; rw [h] at e; cases e)]
  exact e
theorem Up.ch {H H' : Hp} (u : Up H H') : Ch [] H H' := fun b o h _ => u b o h
theorem Up.of {H H' : Hp} (c : Ch [] H H') : Up H H' := fun b o h => c b o h (by simp)
theorem Up.toX {H H' : Hp} {x : Addr} (u : Up H H') : UpX x H H' := fun b o _ h => u b o h
theorem UpX.set {H : Hp} {x : Addr} {o : HO} : UpX x H (upd H x o) := fun b u n e => by rw [upd_ne n]; exact e
theorem UpX.trans {H H1 H2 : Hp} {x : Addr} (a : UpX x H H1) (b : UpX x H1 H2) : UpX x H H2 := fun p o n h => b p o n (a p o n h)
theorem UpX.up {H H' : Hp} {x : Addr} (u : UpX x H H') (h : H x = none) : Up H H' := fun b o e => u b o (fun z => by rw [z] at e; rw [h] at e; cases e) e
inductive PrL (H : Hp) : List V → List Pr → Prop where
  | nil : PrL H [] []
  | cons {q : Addr} {vs : List V} {p : Pr} {l : List Pr} (h : H q = some (.tup [.int p.1, ov p.2])) (r : PrL H vs l) : PrL H (.ref q :: vs) (p :: l)
theorem PrL.up {H H' : Hp} (u : Up H H') : ∀ {vs : List V} {l : List Pr}, PrL H vs l → PrL H' vs l
  | _, _, .nil => .nil
  | _, _, .cons h r => .cons (u _ _ h) (r.up u)
theorem PrL.upX {H H' : Hp} {x : Addr} (u : UpX x H H') (hx : ∀ xs, H x ≠ some (.tup xs)) : ∀ {vs : List V} {l : List Pr}, PrL H vs l → PrL H' vs l
  | _, _, .nil => .nil
  | _, _, .cons h r => .cons (u _ _ (fun z => hx _ (by rw [z] at h; exact h)) h) (r.upX u hx)
theorem PrL.len {H : Hp} : ∀ {vs : List V} {l : List Pr}, PrL H vs l → vs.length = l.length
  | _, _, .nil => rfl
  | _, _, .cons _ r => congrArg (· + 1) r.len
theorem PrL.append {H : Hp} : ∀ {vs ws : List V} {l m : List Pr}, PrL H vs l → PrL H ws m → PrL H (vs ++ ws) (l ++ m)
  | _, _, _, _, .nil, b => b
  | _, _, _, _, .cons h r, b => .cons h (r.append b)
theorem PrL.get {H : Hp} : ∀ {vs : List V} {l : List Pr} {i : Nat} {v : V}, PrL H vs l → vs[i]? = some v → ∃ q p, v = .ref q ∧ l[i]? = some p ∧ H q = some (.tup [.int p.1, ov p.2])
  | _, _, 0, _, .cons h _, e => by
    cases e
    exact ⟨_, _, rfl, rfl, h⟩
  | _, _, i + 1, _, .cons _ r, e => r.get (i := i) e
theorem PrL.at_ {H : Hp} : ∀ {vs : List V} {l : List Pr} {i : Nat} {p : Pr}, PrL H vs l → l[i]? = some p → ∃ q, vs[i]? = some (.ref q) ∧ H q = some (.tup [.int p.1, ov p.2])
  | _, _, 0, _, .cons h _, e => by
    cases e
    exact ⟨_, rfl, h⟩
  | _, _, i + 1, _, .cons _ r, e => r.at_ (i := i) e
def Tp (H : Hp) (t : Addr) (l : List Pr) : Prop := ∃ vs, H t = some (.tup vs) ∧ PrL H vs l
def Lp (H : Hp) (t : Addr) (l : List Pr) : Prop := ∃ vs, H t = some (.lst vs) ∧ PrL H vs l
def TL (H : Hp) (t : Addr) (l : List Pr) : Prop := Tp H t l ∨ Lp H t l
theorem Tp.up {H H' : Hp} {t : Addr} {l : List Pr} (u : Up H H') : Tp H t l → Tp H' t l := fun ⟨vs, h, r⟩ => ⟨vs, u _ _ h, r.up u⟩
theorem Lp.up {H H' : Hp} {t : Addr} {l : List Pr} (u : Up H H') : Lp H t l → Lp H' t l := fun ⟨vs, h, r⟩ => ⟨vs, u _ _ h, r.up u⟩
theorem TL.up {H H' : Hp} {t : Addr} {l : List Pr} (u : Up H H') : TL H t l → TL H' t l := fun h => h.imp (Tp.up u) (Lp.up u)
def kp (t : Addr) : List (Str × V) := [("kept", .ref t)]
def Ss (C : Addr) (H : Hp) (x : Addr) (l : List Pr) : Prop := ∃ dx t, H x = some (.ins C dx (kp t)) ∧ Tp H t l
theorem Ss.up {C : Addr} {H H' : Hp} {t : Addr} {l : List Pr} (u : Up H H') : Ss C H t l → Ss C H' t l := fun ⟨dx, t, h, r⟩ => ⟨dx, t, u _ _ h, r.up u⟩
/-- a new set of these counts -/
def NewS (C : Addr) (P : Int → Prop) (n : Nat) (H : Hp) (Q : VK) : Prop := ∀ x H' c, H x = none → Up H H' → Ss C H' x c → Canon c → (∀ y, sem c y ↔ P y) → c.length ≤ n → Q (.ref x) H'
def rIxA (K : PySem.W.Frag) : R2 := fun x y H Q => rIxT K x y H Q ∨ rIxL K x y H Q
theorem ix_any {X : Cx} : IxR X (rIxA X.K) := by
  intro value slice pins s σ H x y v u Q I rx ry h hs
  rcases h with h | h
  · exact ix_tup value slice pins s σ H x y v u Q I rx ry h hs
  · exact ix_list value slice pins s σ H x y v u Q I rx ry h hs
theorem ai_nat {α : Type} {vs : List α} {i : Nat} {v : α} (ev : vs[i]? = some v) : atI vs (i : Int) = some v := by
  obtain ⟨hlt, _⟩ := List.getElem?_eq_some_iff.mp ev
  unfold atI ixN
  rw [if_pos (Int.natCast_nonneg i)]
  simp only [Int.toNat_natCast]
  first
    | rw [if_pos hlt]; exact ev
    | rw [if_pos (by omega)]; exact ev
theorem g_ixA {K : PySem.W.Frag} {H : Hp} {t : Addr} {l : List Pr} {i : Nat} {p : Pr} {Q : VK} (h : TL H t l) (e : l[i]? = some p) (q : ∀ q, H q = some (.tup [.int p.1, ov p.2]) → Q (.ref q) H) : rIxA K (.ref t) (.int (i : Nat)) H Q := by
  rcases h with ⟨vs, h, r⟩ | ⟨vs, h, r⟩
  · obtain ⟨a, ev, hq⟩ := r.at_ e
    exact .inl (g_ixT h (ai_nat ev) (q a hq))
  · obtain ⟨a, ev, hq⟩ := r.at_ e
    exact .inr ⟨t, vs, _, _, rfl, rfl, SqL.of h, ai_nat ev, q a hq⟩
theorem g_lenA {K : PySem.W.Frag} {H : Hp} {t : Addr} {l : List Pr} {Q : VK} (h : TL H t l) (q : Q (.int l.length) H) : rLenQ K [.ref t] H Q := by
  rcases h with ⟨vs, h, r⟩ | ⟨vs, h, r⟩
  · exact g_lent h (by rw [r.len]; exact q)
  · exact g_lenl h (by rw [r.len]; exact q)
theorem tup_any {K : PySem.W.Frag} {H : Hp} {t : Addr} {vs : List V} (h : H t = some (.tup vs)) : SqT K H t vs := SqT.of h
end AF
/-! two names out of a pair; lists of local use -/
namespace AF
open PySem PySem.Spec PyProof.Rows L2
open ST (Pr Ok sem Canon com gp early plus spr saB en sumc Ended)
section
variable {K : PySem.W.Frag} {σ σ1 σ2 : L2.St} {H : Hp} {te : TE} {i j : Nat} {nx : L2.St → Hp → Prop} {rt : VK} {bk ct : L2.St → Hp → Prop} {a : Addr} {u v : V} {Q : VK} {q : L2.St → Hp → Prop}
theorem g_gt2 [h1 : SetI σ i u σ1] [h2 : SetI σ1 j v σ2] (h : H a = some (.tup [u, v])) (k : q σ2 H) : gTup K 2 (gCons (gName i) (gCons (gName j) gNil)) (.ref a) σ H q :=
  ⟨a, [u, v], rfl, SqT.of h, rfl, u, [v], rfl, v, [], rfl, rfl, by
    show q ((σ.set i (some u)).set j (some v)) H
    rw [h1.eq, h2.eq]; exact k⟩
def kUn2 (K : PySem.W.Frag) (i j : Nat) (σ : L2.St) (nx : L2.St → Hp → Prop) (x : V) (H : Hp) : Prop := gTup K 2 (gCons (gName i) (gCons (gName j) gNil)) x σ H nx
instance : Step (tAsg te (gTup K 2 (gCons (gName i) (gCons (gName j) gNil))) ⟨nx, rt, bk, ct⟩ σ H) (te σ H (kUn2 K i j σ nx)) := ⟨fun h => h⟩
theorem g_un2 [h1 : SetI σ i u σ1] [h2 : SetI σ1 j v σ2] (h : H a = some (.tup [u, v])) (k : nx σ2 H) : kUn2 K i j σ nx (.ref a) H := g_gt2 h k
theorem g_l0 {xs : List V} (hn : Nat.ble xs.length 1000 = true) (q : ∀ p, H p = none → Q (.ref p) (upd H p (.lst xs))) : kLst Q xs H := ⟨line_of hn, q⟩
theorem g_t0 {xs : List V} (hn : Nat.ble xs.length 1000 = true) (q : ∀ p, H p = none → Q (.ref p) (upd H p (.tup xs))) : kTup Q xs H := ⟨line_of hn, q⟩
theorem g_isN {x : V} {r : Bool} (e : decide (x = V.non) = r) (q : Q (.bl r) H) : (fun x y H Q => y = V.non ∧ Q (V.bl (decide (x = V.non))) H : R2) x .non H Q := ⟨rfl, by rw [e]; exact q⟩
end
theorem ov_dec {a : Option Int} : decide (ov a = V.non) = a.isNone := by
  cases a <;> simp [ov]
end AF
/-! comprehensions over pairs and places -/
namespace AF
open PySem PySem.Spec PyProof.Rows L2
open ST (Pr Ok sem Canon com gp early plus spr saB en res sumc Ended)
theorem line1000 {n : Nat} (h : n ≤ 1000) : n < sizeLine := by
  have : sizeLine = 16777216 := sizeLine_eq
  omega
section
variable {K : PySem.W.Frag} {tt : TT} {te : TE} {ks : List Nat} {σ σ2 : L2.St} {Q : VK} {H : Hp} {a : Addr} {vs : List V} {l : List Pr} {i j : Nat} {ta : TA}
/-- [e for low, high in pairs if t], what is told is plain -/
theorem g_lcP (f : Pr → Option V) (hT : H a = some (.tup vs)) (hp : PrL H vs l) (hn : l.length ≤ 1000)
    (hb : ∀ p, p ∈ l → ∀ H1 (R : V → Hp → Prop) (N : Hp → Prop), Up H H1 → (∀ y, f p = some y → R y H1) → (f p = none → N H1) →
      wipe (((wipe σ ks).set i (some (.int p.1))).set j (some (ov p.2))) ks = wipe σ ks ∧ tt (((wipe σ ks).set i (some (.int p.1))).set j (some (ov p.2))) H1 fun b H3 => if b = true then te (((wipe σ ks).set i (some (.int p.1))).set j (some (ov p.2))) H3 R else N H3)
    (q : ∀ D H', H D = none → Up H H' → H' D = some (.lst (l.filterMap f)) → Q (.ref D) H') : kLcT K (gTup K 2 (gCons (gName i) (gCons (gName j) gNil))) tt te ks σ Q (.ref a) H := by
  refine ⟨a, rfl, ⟨vs, SqT.of hT⟩, fun D hD => ?_⟩
  have u0 : Up H (upd H D (.lst [])) := Up.new hD
  have hl := hp.len
  refine lc_tup (K := K) (xs := vs) (fun k H' => Up H H' ∧ H' D = some (.lst ((l.take k).filterMap f))) ⟨u0, upd_same⟩ (fun k H' _ p => SqT.of (p.1 _ _ hT)) (fun k x H' hx p => ?_) fun H' p => ?_
  · obtain ⟨uH, hD'⟩ := p
    obtain ⟨qa, pr, rfl, hlk, hq⟩ := hp.get hx
    obtain ⟨hlt, hget⟩ := List.getElem?_eq_some_iff.mp hlk
    have hm : pr ∈ l := hget ▸ List.getElem_mem hlt
    have etk : l.take (k + 1) = l.take k ++ [pr] := by rw [List.take_add_one, hlk]; rfl
    refine ⟨qa, _, rfl, SqT.of (uH _ _ hq), rfl, _, _, rfl, _, _, rfl, rfl, ?_⟩
    refine hb pr hm H' _ _ uH (fun y hy => ?_) fun hy => ?_
    · refine ⟨_, hD', line1000 (Nat.le_trans (List.length_filterMap_le _ _) (by rw [List.length_take]; omega)), ?_, ?_⟩
      · intro b o e
        rw [upd_ne (fun z => by rw [z] at e; rw [hD] at e; cases e)]
        exact uH _ _ e
      · rw [upd_same, etk, List.filterMap_append]
        simp [hy]
    · refine ⟨uH, ?_⟩
      rw [hD', etk, List.filterMap_append]
      simp [hy]
  · obtain ⟨uH, hD'⟩ := p
    refine q D H' hD uH ?_
    rw [hD', hl, List.take_length]
def kLcRg (g : TG) (tt : TT) (te : TE) (ks : List Nat) (σ : L2.St) (Q : VK) (j : Int) (H1 : Hp) : Prop := ∀ D, H1 D = none → ∃ W : Nat → Nat → Hp → Prop, (∃ m, W 0 m (upd H1 D (.lst []))) ∧ ∀ i m H, W i m H →
  ((Itr 0 j.toNat).stop i H ∧ Q (.ref D) H) ∨ ((Itr 0 j.toNat).go i H ∧ ∃ Nx : Hp → Prop, (∀ H', Nx H' → ∃ m', m' < m ∧ W (i + 1) m' H') ∧ ∀ x H', (Itr 0 j.toNat).yld i H x H' → g x (wipe σ ks) H' fun σ2 H2 => wipe σ2 ks = wipe σ ks ∧ tt σ2 H2 fun b H3 =>
    if b = true then te σ2 H3 fun y H4 => ∃ acc, H4 D = some (.lst acc) ∧ acc.length < sizeLine ∧ Nx (upd H4 D (.lst (acc ++ [y]))) else Nx H3)
instance {g : TG} : Step (tLc (iRng1 ta) g tt te ks σ H Q) (ta σ H (kR1 (kLcRg g tt te ks σ Q))) := ⟨fun h => h⟩
/-- [k for k in range(n) if t(k)] -/
theorem g_lcRg (t : Nat → Bool) {n : Nat} (hn : n ≤ 1000)
    (hb : ∀ k, k < n → ∀ H1 (R : Bool → Hp → Prop), Up H H1 → R (t k) H1 → wipe ((wipe σ ks).set i (some (.int k))) ks = wipe σ ks ∧ tt ((wipe σ ks).set i (some (.int k))) H1 R)
    (he : ∀ k, k < n → ((wipe σ ks).set i (some (.int (k : Nat))))[i]? = some (some (.int (k : Nat))))
    (q : ∀ D H', H D = none → Up H H' → H' D = some (.lst (((List.range n).filter t).map fun k => V.int (k : Nat))) → Q (.ref D) H') : kLcRg (gName i) tt (tVar i) ks σ Q (n : Int) H := by
  intro D hD
  have u0 : Up H (upd H D (.lst [])) := Up.new hD
  rw [Int.toNat_natCast]
  refine lc_range (lo := 0) (n := n) (fun k H' => Up H H' ∧ H' D = some (.lst (((List.range k).filter t).map fun k => V.int (k : Nat)))) ⟨u0, upd_same⟩ (fun k H' hk p => ?_) fun H' p => q D H' hD p.1 p.2
  obtain ⟨uH, hD'⟩ := p
  show wipe ((wipe σ ks).set i (some (.int (0 + (k : Int))))) ks = wipe σ ks ∧ _
  rw [Int.zero_add]
  refine hb k hk H' _ uH ?_
  have er : List.range (k + 1) = List.range k ++ [k] := List.range_succ
  cases ht : t k with
  | true =>
    rw [if_pos rfl]
    refine ⟨_, he k hk, _, hD', line1000 ?_, ?_, ?_⟩
    · rw [List.length_map]
      exact Nat.le_trans (List.length_filter_le _ _) (by rw [List.length_range]; omega)
    · intro b o e
      rw [upd_ne (fun z => by rw [z] at e; rw [hD] at e; cases e)]
      exact uH _ _ e
    · rw [upd_same, er, List.filter_append]
      simp [ht]
  | false =>
    rw [if_neg (by decide)]
    refine ⟨uH, ?_⟩
    rw [hD', er, List.filter_append]
    simp [ht]
end
theorem g_iv {b : Bool} {ta tb : VK → Prop} {v : V} {H : Hp} {Q : VK} (h1 : b = true → ∀ Q : VK, Q v H → ta Q) (h2 : b = false → ∀ Q : VK, Q v H → tb Q) (q : Q v H) : if b = true then ta Q else tb Q := by
  cases b with
  | true => rw [if_pos rfl]; exact h1 rfl Q q
  | false => rw [if_neg (by decide)]; exact h2 rfl Q q
theorem Up.setF {H H' : Hp} {p : Addr} {o : HO} (u : Up H H') (h : H p = none) : Up H (upd H' p o) := fun b x e => by
  rw [upd_ne (fun z => by rw [z] at e; rw [h] at e; cases e)]
  exact u _ _ e
theorem PrL.setL {H : Hp} {p : Addr} {ys : List V} {o : HO} {vs : List V} {l : List Pr} (r : PrL H vs l) (h : H p = some (.lst ys)) : PrL (upd H p o) vs l := r.upX UpX.set (fun xs e => by rw [h] at e; cases e)
theorem line2 {n : Nat} (h : n ≤ 2000) : n < sizeLine := by
  have : sizeLine = 16777216 := sizeLine_eq
  omega
instance {i : Nat} {v : V} {σ : L2.St} {H : Hp} {te : TE} {ti : TIp} {nx : L2.St → Hp → Prop} {rt : VK} {bk ct : L2.St → Hp → Prop} [h : SlotI σ i v] : Step (tAug i te ti ⟨nx, rt, bk, ct⟩ σ H) (te σ H fun y H1 => ti v y H1 fun z H2 => nx (σ.set i (some z)) H2) := ⟨fun q => ⟨v, h.at_, q⟩⟩
instance {g : Int → Int → Int} {x y : Int} {H : Hp} {Q : VK} : Step (ipI g (.int x) (.int y) H Q) (Q (.int (g x y)) H) := ⟨fun q => ⟨x, y, rfl, rfl, q⟩⟩
theorem Tp.upX {H H' : Hp} {x t : Addr} {l : List Pr} (u : UpX x H H') (hx : ∀ xs, H x ≠ some (.tup xs)) : Tp H t l → Tp H' t l := fun ⟨vs, h, r⟩ => ⟨vs, u _ _ (fun z => hx _ (by rw [z] at h; exact h)) h, r.upX u hx⟩
theorem UpX.of {H H' : Hp} {x : Addr} (c : Ch [x] H H') : UpX x H H' := fun b o n h => c b o h (by simp [n])
/-- two ways that come together: W is what both lead to *-/
theorem g_meet {b : Bool} {t u : TS} {nx : L2.St → Hp → Prop} {rt : VK} {bk ct : L2.St → Hp → Prop} {σ : L2.St} {H : Hp} (W : L2.St → Hp → Prop) (h1 : b = true → ∀ nx' : L2.St → Hp → Prop, (∀ σ H, W σ H → nx' σ H) → t ⟨nx', rt, bk, ct⟩ σ H) (h2 : b = false → ∀ nx' : L2.St → Hp → Prop, (∀ σ H, W σ H → nx' σ H) → u ⟨nx', rt, bk, ct⟩ σ H)
    (q : ∀ σ H, W σ H → nx σ H) : if b = true then t ⟨nx, rt, bk, ct⟩ σ H else u ⟨nx, rt, bk, ct⟩ σ H := by
  cases b with
  | true => rw [if_pos rfl]; exact h1 rfl nx q
  | false => rw [if_neg (by decide)]; exact h2 rfl nx q
def gpn (b : Option Int) (r : List Pr) : List Pr := match b with
  | none => []
  | some u => gp (u + 1) r
theorem g_eqO {x y : Option Int} {H : Hp} {Q : VK} (q : Q (.bl (decide (x = y))) H) : rEq (ov x) (ov y) H Q := by
  have e : decide (ov x = ov y) = decide (x = y) := by
    cases x <;> cases y <;> simp [ov]
  refine ⟨?_, by rw [e]; exact q⟩
  cases x <;> cases y <;> rfl
/-- the rest of com behind a step *-/
def comr (p q : Pr) (a b : List Pr) : List Pr := if p.2 = early p.2 q.2 then com a (q :: b) else com (p :: a) b
theorem com_yes {p q : Pr} {a b : List Pr} (c : ∀ h, early p.2 q.2 = some h → max p.1 q.1 ≤ h) : com (p :: a) (q :: b) = (max p.1 q.1, early p.2 q.2) :: comr p q a b := by
  conv => lhs; unfold com
  simp only []
  rw [if_pos c]
  rfl
theorem com_no {p q : Pr} {a b : List Pr} (c : ¬ ∀ h, early p.2 q.2 = some h → max p.1 q.1 ≤ h) : com (p :: a) (q :: b) = comr p q a b := by
  conv => lhs; unfold com
  simp only []
  rw [if_neg c]
  rfl
theorem com_nil2 {a : List Pr} : com a [] = [] := by
  cases a <;> (unfold com; rfl)
theorem com_nil1 {b : List Pr} : com [] b = [] := by
  unfold com; rfl
theorem g_tYes {te : TE} {R : V → Hp → Prop} {N : Hp → Prop} {σ : L2.St} {H : Hp} (h : te σ H R) : tYes σ H fun b H3 => if b = true then te σ H3 R else N H3 := by
  show if (true : Bool) = true then te σ H R else N H
  rw [if_pos rfl]
  exact h
theorem res_at {L Hs : List Int} {n : Nat} : ∀ {st : List Nat} {k s : Nat}, st[k]? = some s → (res L Hs n st)[k]? = some (L.getD s 0, en Hs (st[k + 1]?.getD n))
  | [s], 0, _, e => by
    cases e
    rfl
  | s :: s' :: r, 0, _, e => by
    cases e
    rfl
  | [s], k + 1, _, e => by cases e
  | s :: s' :: r, k + 1, x, e => by
    have z := res_at (L := L) (Hs := Hs) (n := n) (st := s' :: r) (k := k) (s := x) e
    simpa [res] using z
theorem res_len {L Hs : List Int} {n : Nat} : ∀ {st : List Nat}, (res L Hs n st).length = st.length
  | [] => rfl
  | [_] => rfl
  | s :: s' :: r => by
    show (res L Hs n (s' :: r)).length + 1 = _
    rw [res_len]
    rfl
theorem fil_lt {n : Nat} {t : Nat → Bool} {k s : Nat} (e : ((List.range n).filter t)[k]? = some s) : s < n := by
  have := List.mem_of_getElem? e
  rw [List.mem_filter, List.mem_range] at this
  exact this.1
theorem fil_pos {n : Nat} {t : Nat → Bool} {k s : Nat} (e : ((List.range n).filter t)[k + 1]? = some s) : 1 ≤ s := by
  obtain ⟨h1, e1⟩ := List.getElem?_eq_some_iff.mp e
  have p : ((List.range n).filter t).Pairwise (· < ·) := List.Pairwise.filter _ List.pairwise_lt_range
  have := List.pairwise_iff_getElem.mp p k (k + 1) (by omega) h1 (by omega)
  omega
theorem com_len : ∀ (a b : List Pr), (com a b).length ≤ a.length + b.length
  | [], b => by unfold com; simp
  | _ :: _, [] => by unfold com; simp
  | p :: a, q :: b => by
    have h1 := com_len a (q :: b)
    have h2 := com_len (p :: a) b
    unfold com
    simp only [List.length_cons] at h1 h2 ⊢
    by_cases c1 : p.2 = early p.2 q.2 <;> by_cases c2 : (∀ h, early p.2 q.2 = some h → max p.1 q.1 ≤ h)
    · rw [if_pos c1, if_pos c2]; simp only [List.length_cons]; omega
    · rw [if_pos c1, if_neg c2]; omega
    · rw [if_neg c1, if_pos c2]; simp only [List.length_cons]; omega
    · rw [if_neg c1, if_neg c2]; omega
termination_by a b => a.length + b.length
theorem gp_len : ∀ (l : List Pr) (lo : Int), (gp lo l).length ≤ l.length + 1 := by
  intro l
  induction l with
  | nil => intro lo; unfold gp; simp
  | cons p r ih =>
    intro lo
    obtain ⟨a, b⟩ := p
    have h0 : (if lo < a then [((lo, some (a - 1)) : Pr)] else []).length ≤ 1 := by split <;> simp
    cases b with
    | none =>
      show ((if lo < a then [((lo, some (a - 1)) : Pr)] else []) ++ []).length ≤ _
      rw [List.append_nil, List.length_cons]
      omega
    | some u =>
      show ((if lo < a then [((lo, some (a - 1)) : Pr)] else []) ++ gp (u + 1) r).length ≤ _
      have := ih (u + 1)
      rw [List.length_append, List.length_cons]
      omega
end AF
/-! equal tuples of pairs; comprehensions that make pairs *-/
namespace AF
open PySem PySem.Spec PyProof.Rows L2
open ST (Pr Ok sem Canon com gp early plus spr saB en res sumc Ended)
def od : Option Int → PyData
  | none => .none
  | some i => .int i
def prD (p : Pr) : PyData := .tuple [.int p.1, od p.2]
theorem od_can (o : Option Int) : (od o).canLay0 = true := by cases o <;> rfl
theorem od_dep (o : Option Int) : (od o).depth = 0 := by cases o <;> rfl
theorem prD_can (p : Pr) : (prD p).canLay0 = true := by
  show ((PyData.int p.1).canLay0 && ((od p.2).canLay0 && true)) = true
  rw [od_can]; rfl
theorem prD_dep (p : Pr) : (prD p).depth = 1 := by
  show max (PyData.int p.1).depth (max (od p.2).depth 0) + 1 = 1
  rw [od_dep]; rfl
theorem all_can : ∀ l : List Pr, PyData.canLayAll0 (l.map prD) = true
  | [] => rfl
  | p :: r => by
    show ((prD p).canLay0 && PyData.canLayAll0 (r.map prD)) = true
    rw [prD_can, all_can r]; rfl
theorem all_dep : ∀ l : List Pr, PyData.depthAll (l.map prD) ≤ 1
  | [] => Nat.zero_le _
  | p :: r => by
    show max (prD p).depth (PyData.depthAll (r.map prD)) ≤ 1
    have := all_dep r
    rw [prD_dep]; omega
theorem tupD (l : List Pr) : SeqAt.shaped (.tuple (l.map prD)) = true := by
  show ((PyData.tuple (l.map prD)).canLay0 && decide ((PyData.tuple (l.map prD)).depth ≤ 64)) = true
  have h1 : (PyData.tuple (l.map prD)).canLay0 = true := all_can l
  have h2 : (PyData.tuple (l.map prD)).depth ≤ 64 := by
    have := all_dep l
    show PyData.depthAll (l.map prD) + 1 ≤ 64
    omega
  rw [h1, decide_eq_true h2]; rfl
theorem od_eqv (x y : Option Int) : PyData.eqv (od x) (od y) = decide (x = y) := by
  cases x <;> cases y
  · rfl
  · simp [od, PyData.eqv]
  · simp [od, PyData.eqv]
  · rename_i a b
    show (a == b) = decide (some a = some b)
    simp only [Option.some.injEq]
    rfl
theorem prD_eqv (p q : Pr) : PyData.eqv (prD p) (prD q) = decide (p = q) := by
  obtain ⟨a, b⟩ := p
  obtain ⟨c, d⟩ := q
  show ((a == c) && (PyData.eqv (od b) (od d) && true)) = _
  rw [od_eqv, Bool.and_true, Bool.eq_iff_iff]
  simp
theorem all_eqv : ∀ l m : List Pr, PyData.eqvAll (l.map prD) (m.map prD) = decide (l = m)
  | [], [] => rfl
  | [], _ :: _ => by simp [PyData.eqvAll]
  | _ :: _, [] => by simp [PyData.eqvAll]
  | p :: r, q :: t => by
    show (PyData.eqv (prD p) (prD q) && PyData.eqvAll (r.map prD) (t.map prD)) = _
    rw [prD_eqv, all_eqv r t, Bool.eq_iff_iff]
    simp
theorem dp_ov {K : PySem.W.Frag} {H : Hp} : ∀ o : Option Int, Dp K H (ov o) (od o)
  | none => .non
  | some i => .int i
theorem dp_all {K : PySem.W.Frag} {H : Hp} : ∀ {vs : List V} {l : List Pr}, PrL H vs l → DpAll K H vs (l.map prD)
  | _, _, .nil => .nil
  | _, _, .cons h r => .cons (dp_tup h (.cons (.int _) (.cons (dp_ov _) .nil))) (dp_all r)
theorem g_eqP {K : PySem.W.Frag} {H : Hp} {s t : Addr} {a b : List Pr} {Q : VK} (ha : Tp H s a) (hb : Tp H t b) (q : Q (.bl (decide (a = b))) H) : rEqD K (.ref s) (.ref t) H Q := by
  obtain ⟨vs, hs, rs⟩ := ha
  obtain ⟨ws, ht, rt⟩ := hb
  exact ⟨.tuple (a.map prD), .tuple (b.map prD), dp_tup hs (dp_all rs), dp_tup ht (dp_all rt), tupD a, tupD b, by
    rw [show PyData.eqv (.tuple (a.map prD)) (.tuple (b.map prD)) = PyData.eqvAll (a.map prD) (b.map prD) from rfl, all_eqv]
    exact q⟩
/-- [(.., ..) for low, high in pairs] -/
theorem g_lcA {K : PySem.W.Frag} {te : TE} {ks : List Nat} {σ : L2.St} {Q : VK} {H : Hp} {a : Addr} {vs : List V} {l : List Pr} {i j : Nat} (f : Pr → Pr) (hT : H a = some (.tup vs)) (hp : PrL H vs l) (hn : l.length ≤ 1000)
    (hb : ∀ p, p ∈ l → ∀ H1 (R : V → Hp → Prop), Up H H1 → (∀ q H2, Up H1 H2 → H2 q = some (.tup [.int (f p).1, ov (f p).2]) → R (.ref q) H2) →
      wipe (((wipe σ ks).set i (some (.int p.1))).set j (some (ov p.2))) ks = wipe σ ks ∧ te (((wipe σ ks).set i (some (.int p.1))).set j (some (ov p.2))) H1 R)
    (q : ∀ D H', H D = none → Up H H' → Lp H' D (l.map f) → Q (.ref D) H') : kLcT K (gTup K 2 (gCons (gName i) (gCons (gName j) gNil))) tYes te ks σ Q (.ref a) H := by
  refine ⟨a, rfl, ⟨vs, SqT.of hT⟩, fun D hD => ?_⟩
  have u0 : Up H (upd H D (.lst [])) := Up.new hD
  have hl := hp.len
  refine lc_tup (K := K) (xs := vs) (fun k H' => Up H H' ∧ ∃ acc, H' D = some (.lst acc) ∧ PrL H' acc ((l.take k).map f)) ⟨u0, [], upd_same, .nil⟩ (fun k H' _ p => SqT.of (p.1 _ _ hT)) (fun k x H' hx p => ?_) fun H' p => ?_
  · obtain ⟨uH, acc, hD', hacc⟩ := p
    obtain ⟨qa, pr, rfl, hlk, hq⟩ := hp.get hx
    obtain ⟨hlt, hget⟩ := List.getElem?_eq_some_iff.mp hlk
    have hm : pr ∈ l := hget ▸ List.getElem_mem hlt
    have etk : l.take (k + 1) = l.take k ++ [pr] := by rw [List.take_add_one, hlk]; rfl
    refine ⟨qa, _, rfl, SqT.of (uH _ _ hq), rfl, _, _, rfl, _, _, rfl, rfl, ?_⟩
    have z := hb pr hm H' (fun y H4 => ∃ acc, H4 D = some (.lst acc) ∧ acc.length < sizeLine ∧ (Up H (upd H4 D (.lst (acc ++ [y]))) ∧ ∃ acc', upd H4 D (.lst (acc ++ [y])) D = some (.lst acc') ∧ PrL (upd H4 D (.lst (acc ++ [y]))) acc' ((l.take (k + 1)).map f))) uH (fun q H2 u2 hq2 => ?_)
    · exact ⟨z.1, g_tYes z.2⟩
    · have hD2 := u2 _ _ hD'
      refine ⟨acc, hD2, line1000 ?_, Up.setF (uH.trans u2) hD, _, upd_same, ?_⟩
      · rw [hacc.len, List.length_map, List.length_take]; omega
      · rw [etk, List.map_append]
        exact ((hacc.up u2).append (PrL.cons hq2 .nil)).setL hD2
  · obtain ⟨uH, acc, hD', hacc⟩ := p
    rw [hl, List.take_length] at hacc
    exact q D H' hD uH ⟨acc, hD', hacc⟩
theorem com_empty {a b : List Pr} (ok : ∀ p, p ∈ com a b → Ok p) : com a b = [] ↔ ∀ x, ¬ sem (com a b) x := by
  constructor
  · intro e x h
    rw [e] at h
    exact ST.sem_nil.mp h
  · intro h
    cases e : com a b with
    | nil => rfl
    | cons p r =>
      rw [e] at h ok
      exact absurd ⟨p, List.mem_cons_self, ST.in_low (ok p List.mem_cons_self)⟩ (h p.1)
end AF
/-! defs that may show containers: what they promise where no repr is under way; the law's end for such a law -/
namespace AF
open PySem PySem.Spec PyProof.Rows L2 LamX
/-- a promise for places at which no repr runs -/
structure FnG (P : Program) (w : World) (K : PySem.W.Frag) (mg : Str → Option Value) (base : Heap) (CX : CXT) (k : Nat) (f : Addr) (fd : FuncData) (ps : List Str) (sp : Sp) : Prop where
  len : ∀ vs H Q E, sp vs H Q E → vs.length = ps.length
  go : ∀ (A : Around) (outer : List Env) (s : Shared) (H : Hp) (args : Args) (us : List Value) (vs : List V) (Q : VK) (E : XK), A.guards = some [] → Room k A → Env0 P w K mg base A outer s H →
    BindsTo s fd args (ps.zip us) → Vals vs us → sp vs H Q E → codeAny (model P w) A (.call (.ref f) args) (CR CX outer P w H s Q E) s
theorem FunD.okG {P : Program} {w : World} {K : PySem.W.Frag} {mg : Str → Option Value} {base : Heap} {x qual : Str} {params : Arguments} {body : List Stmt} {scope : Scope} {dvs : List V} {kws : List (Str × V)} {f : Addr} {fd : FuncData}
    {CX : CXT} {N ps : List Str} {k : Nat} {sp : Sp} (F : FunD K x qual params body scope dvs kws f fd) (S : FnScope N ps scope) (len : ∀ vs H Q E, sp vs H Q E → vs.length = ps.length)
    (hb : ∀ (cdv : Value) (A : Around) (outer : List Env) (s : Shared) (H : Hp) (vs : List V) (Q : VK) (E : XK), A.guards = some [] → Room k (A.deeper (envOfC qual scope s.heap.objs.size f cdv)) → sp vs H Q E →
      ∃ t, PSs (cxOf CX P w K mg base N qual scope f cdv A outer s H E) body t ∧ t { nx := fun _ H' => Q .non H', rt := Q } (L2.start N vs) H) : FnG P w K mg base CX (k + 1) f fd ps sp := by
  obtain ⟨oc, od, dV, kV, doc, pm, an, cdv, ct, osl, efd, lk, hcd, _, _⟩ := F.ex
  subst efd
  exact ⟨len, fun A outer s H args us vs Q E hg hr e0 hbd r hsp => run_ofS lk hcd S hr e0 hbd r (len _ _ _ _ hsp) fun hr' => hb cdv A outer s H vs Q E hg hr' hsp⟩
/-- a def's code -/
def cdOf (K : PySem.W.Frag) (f : Addr) : Value := match K.lookup f with
  | some ⟨_, _, .func fd, _⟩ => fd.code
  | _ => .none
/-- .. whose code is told -/
theorem FunD.okC {P : Program} {w : World} {K : PySem.W.Frag} {mg : Str → Option Value} {base : Heap} {x qual : Str} {params : Arguments} {body : List Stmt} {scope : Scope} {dvs : List V} {kws : List (Str × V)} {f : Addr} {fd : FuncData}
    {CX : CXT} {N ps : List Str} {k : Nat} {sp : Sp} (F : FunD K x qual params body scope dvs kws f fd) (S : FnScope N ps scope) (len : ∀ vs H Q E, sp vs H Q E → vs.length = ps.length)
    (hb : ∀ (cdv : Value) (A : Around) (outer : List Env) (s : Shared) (H : Hp) (vs : List V) (Q : VK) (E : XK), cdOf K f = cdv → A.guards = some [] → Room k (A.deeper (envOfC qual scope s.heap.objs.size f cdv)) → sp vs H Q E →
      ∃ t, PSs (cxOf CX P w K mg base N qual scope f cdv A outer s H E) body t ∧ t { nx := fun _ H' => Q .non H', rt := Q } (L2.start N vs) H) : FnG P w K mg base CX (k + 1) f fd ps sp := by
  obtain ⟨oc, od, dV, kV, doc, pm, an, cdv, ct, osl, efd, lk, hcd, _, _⟩ := F.ex
  subst efd
  have ec : cdOf K f = cdv := by unfold cdOf; rw [lk]
  exact ⟨len, fun A outer s H args us vs Q E hg hr e0 hbd r hsp => run_ofS lk hcd S hr e0 hbd r (len _ _ _ _ hsp) fun hr' => hb cdv A outer s H vs Q E ec hg hr' hsp⟩
/-- .. by name, all parameters given -/
structure DnG (P : Program) (w : World) (K : PySem.W.Frag) (mg : Str → Option Value) (base : Heap) (k : Nat) (a : Addr) (ps : List Str) (sp : Sp) : Prop where
  ex : ∃ fd, FnG P w K mg base (L2.CX P w) k a fd ps sp ∧ Binds K fd ps []
  kp : PySem.W.keepIn K (.ref a) = true
section
variable {X : Cx} {k : Nat} {f : Addr} {ps : List Str} {sp : Sp} {E : XK} {x : Str} {p pos : Pos} {e : Expr} {es : List Expr} {t : TA}
theorem pe_dng (D : DnG X.prog X.w X.K X.mg X.base k f ps sp) (hG : X.A.guards = some []) (hr : Room k X.A) (hg : Gl X x) (hm : X.mg x = some (.ref f)) (hx : Passes (L2.CX X.prog X.w) X E) (ha : PA X (e :: es) t) (hdb : (x == ("__debug__" : Str)) = false := by decide)
    (he : starEach (e :: es) X.env = (false, eval e X.env) :: starEach es X.env := by rfl) (hpl : (backTo pos (starEach es X.env)).any (·.1) = false := by rfl) : PE X (.Call (.Name x p) (e :: es) [] pos) (tCall sp [] E t) := by
  obtain ⟨fd, F, b⟩ := D.ex
  constructor
  intro pins s σ H Q I h
  refine wpAny_Call_Name_kw (ld_glob I hg hm ?_ hdb)
  refine PySem.W.callWith_K (h₀ := X.base) I.ok.mod.kin D.kp (thn (ha.run pos pins s σ H _ I h) ?_) he hpl
  rintro us s1 ⟨vs, H1, I1, r, q⟩
  refine ⟨I1.kIn, ?_⟩
  rw [List.append_nil] at q
  have hl : us.length = ps.length := r.length ▸ F.len _ _ _ _ q
  have bd := b s1 us I1.kIn (by rw [List.append_nil]; exact hl)
  rw [List.append_nil] at bd
  refine wpAny_call (codeAny_mono (F.go X.A X.stack s1 H1 ⟨us, []⟩ us vs Q E hG hr I1.env0 bd r q) ?_)
  rintro (er | fl) s' z
  · exact hx pins σ H1 s1 er s' I1 z
  · cases fl <;> first | exact I1.after z | exact False.elim z
end
/-! the law's end -/
/-- ahead of the law: the script, if it is not written, and the tables -/
def hpA (K : PySem.W.Frag) (a : Addr) (sc : HO) (ts : List Addr) : Hp := fun b => if b = a ∧ K.lookup a = none then some sc else if b ∈ ts then some (.tbl #[]) else none
theorem hpA_cases {K : PySem.W.Frag} {a b : Addr} {sc u : HO} {ts : List Addr} (h : hpA K a sc ts b = some u) : (b = a ∧ K.lookup a = none ∧ u = sc) ∨ (b ∈ ts ∧ u = .tbl #[]) := by
  unfold hpA at h
  split at h
  · rename_i z
    exact .inl ⟨z.1, z.2, (Option.some.inj h).symm⟩
  · split at h
    · rename_i z
      exact .inr ⟨z, (Option.some.inj h).symm⟩
    · cases h
theorem hpA_tab {K : PySem.W.Frag} {a b : Addr} {sc : HO} {ts : List Addr} (hb : b ∈ ts) (ha : a ∉ ts) : hpA K a sc ts b = some (.tbl #[]) := by
  unfold hpA
  rw [if_neg (show ¬ (b = a ∧ K.lookup a = none) from fun z => ha (z.1 ▸ hb)), if_pos hb]
theorem hpA_none {K : PySem.W.Frag} {a b : Addr} {sc : HO} {ts : List Addr} (h : ∀ u, hpA K a sc ts b ≠ some u) : hpA K a sc ts b = none := by
  cases e : hpA K a sc ts b with
  | none => rfl
  | some u => exact absurd e (h u)
abbrev oScr (vs : List Value) : Obj := { cls := .type "list", data := .seq vs.toArray }
abbrev oTab : Obj := { cls := .none, data := .fields #[] }
/-- the script as it stands ahead of the law: nothing may change it -/
def SqF (K : PySem.W.Frag) (H : Hp) (a : Addr) (xs : List V) : Prop := (∃ o, H a = some (.frz o (.lst xs))) ∨
  ∃ (o : Obj) (its : Array Value) (n : Nat), K.lookup a = some o ∧ o.cls = .type "list" ∧ o.dict = none ∧ o.data = .seq its n ∧ its.size ≤ sizeLine ∧ Vals xs its.toList
theorem SqF.sq {K : PySem.W.Frag} {H : Hp} {a : Addr} {xs : List V} (h : SqF K H a xs) : SqL K H a xs := h.elim (fun z => .inl (.inr z)) .inr
theorem law_callG {P : Program} {w : World} {K : PySem.W.Frag} {mg mb : Str → Option Value} {CX : CXT} {k : Nat} {fa a : Addr} {cs : List (Addr × Addr)} {fd : FuncData} {x : Str} {sp : Sp} {s₁ : Shared} {vs : List Value} {ns : List Int}
    (KX : K.In s₁.heap) (hns : s₁.heap.Ns mainGlobals mg) (hb : s₁.heap.Ns builtinsNs mb) (hbb : ∀ y : Str, y ≠ "__name__" → mb y = bootBuiltins y) (hlim : s₁.heap.NoLimit) (hg : s₁.gens = #[])
    (hT : ∀ p ∈ cs, s₁.heap.get? p.2 = some oTab) (nT : ∀ p ∈ cs, K.lookup p.2 = none) (C : ∀ p ∈ cs, PySem.W.CodeHd s₁.heap p.1 p.2)
    (hbm : ∃ (bm : Addr) (ob : Obj), mg "__builtins__" = some (.ref bm) ∧ bm ≠ builtinsNs ∧ s₁.heap.get? bm = some ob ∧ ob.cls = .type "module" ∧ ob.dict = some builtinsNs ∧ ob.data = .plain)
    (ha : s₁.heap.get? a = some (oScr vs)) (hi : IntsAre vs ns) (hl : ns.length ≤ sizeLine) (hr : Room k callerA)
    (F : ∀ base : Heap, K.In base → base.Ns mainGlobals mg → (∀ p ∈ cs, TabB base mg p.1 p.2) → FnG P w K mg base CX k fa fd [x] sp) (hbind : ∀ (s : Shared) (u : Value), BindsTo s fd ⟨[u], []⟩ [(x, u)])
    (hsp : ∀ H : Hp, (∀ p ∈ cs, H p.2 = some (.tbl #[])) → SqF K H a (ns.map V.int) → sp [.ref a] H (fun v _ => v = .bl true) fun _ _ _ => False)
    (hCX : ∀ H e s', CX [] H s₁ (fun _ _ _ => False) e s' → False) :
    codeAny (model P w) callerA (.call (.ref fa) ⟨[.ref a], []⟩) (fun r s' => r = .ok (.ret (.bool true)) ∧ OldK s₁.heap s'.heap ∧ s'.os = s₁.os ∧ AllBare s'.gens) s₁ := by
  have rv := vals_ints hi
  have elen : vs.length = ns.length := hi.length
  generalize ets : cs.map (·.2) = ts
  have tb : ∀ b, b ∈ ts → ∃ p ∈ cs, p.2 = b := fun b z => by rw [← ets] at z; exact List.mem_map.mp z
  have bt : ∀ p, p ∈ cs → p.2 ∈ ts := fun p z => by rw [← ets]; exact List.mem_map.mpr ⟨p, z, rfl⟩
  have at' : ∀ b, b ∈ ts → s₁.heap.get? b = some oTab := fun b z => by
    obtain ⟨p, hp, rfl⟩ := tb b z
    exact hT p hp
  have na : a ∉ ts := fun z => by
    have y := (at' a z).symm.trans ha
    have y2 : Data.fields #[] = Data.seq vs.toArray _ := congrArg Obj.data (Option.some.inj y)
    cases y2
  let sc : HO := .frz (oScr vs) (.lst (ns.map V.int))
  let H := hpA K a sc ts
  -- what is neither the script nor a table is not told
  have free : ∀ {b : Addr} {o : Obj}, s₁.heap.get? b = some o → o ≠ oScr vs → o ≠ oTab → H b = none := fun {b o} e n1 n2 => hpA_none fun u z => by
    rcases hpA_cases z with ⟨rfl, _, _⟩ | ⟨m, _⟩
    · exact n1 (Option.some.inj (e.symm.trans ha))
    · exact n2 (Option.some.inj (e.symm.trans (at' b m)))
  have noscr : ∀ {o : Obj}, (∀ l n, o.data ≠ .seq l n) → o ≠ oScr vs := fun n z => n _ _ (congrArg Obj.data z)
  have notab : ∀ {o : Obj}, o.data ≠ .fields #[] → o ≠ oTab := fun n z => n (congrArg Obj.data z)
  have hid : ∀ {b : Addr} {o : Obj}, s₁.heap.get? b = some o → o ≠ oScr vs → o ≠ oTab → (hidT s₁.heap H).get? b = some o := fun e n1 n2 => hidT_get e (free e n1 n2)
  have keepNs : ∀ {b : Addr} {m : Str → Option Value}, s₁.heap.Ns b m → (hidT s₁.heap H).Ns b m := fun {b m} z => by
    obtain ⟨o, es, ep, e, d, r⟩ := z
    refine ⟨o, es, ep, hid e (noscr fun l n y => ?_) (notab fun y => ?_), d, r⟩ <;> (rw [d] at y; cases y)
  have bIn : K.In (hidT s₁.heap H) := fun b o e => hidT_get (KX b o e) (hpA_none fun u z => by
    rcases hpA_cases z with ⟨rfl, n, _⟩ | ⟨m, _⟩
    · rw [n] at e; cases e
    · obtain ⟨p, hp, rfl⟩ := tb b m
      rw [nT p hp] at e; cases e)
  obtain ⟨mc, lim1, lim2⟩ := hlim
  have bMod : L2.Mod K mg (hidT s₁.heap H) := ⟨bIn, keepNs hns, ⟨mb, keepNs hb, hbb⟩, ⟨mc, keepNs lim1, lim2⟩⟩
  have hok : HOk P w H s₁.heap := fun b u z => by
    rcases hpA_cases z with ⟨rfl, _, rfl⟩ | ⟨m, rfl⟩
    · exact ⟨ha, by rw [List.length_map]; exact hl, vs, _, rv, ha⟩
    · exact at' b m
  have sq : SqF K H a (ns.map V.int) := by
    cases lk : K.lookup a with
    | none => exact .inl (⟨oScr vs, by show hpA K a sc ts a = _; unfold hpA; rw [if_pos ⟨rfl, lk⟩]⟩)
    | some o =>
      have eo : o = oScr vs := Option.some.inj ((KX a o lk).symm.trans ha)
      subst eo
      exact .inr ⟨_, vs.toArray, _, lk, rfl, rfl, rfl, by rw [List.size_toArray, elen]; exact hl, by simpa using rv⟩
  have tabs : ∀ p ∈ cs, TabB (hidT s₁.heap H) mg p.1 p.2 := fun p hp => by
    have tp := hT p hp
    constructor
    · obtain ⟨o, us, file, tf, flags, tg, inF, text, tt, e1, r1, r2, r3, rest⟩ := C p hp
      refine ⟨o, us, file, tf, flags, tg, inF, text, tt, hid e1 (noscr fun l n y => ?_) (notab fun y => ?_), r1, r2, r3, rest⟩
      · rw [r2] at y; cases y
      · rw [r2] at y; cases y
        simp at r3
    · obtain ⟨bm, ob, b1, b2, b3, b4, b5, b6⟩ := hbm
      refine ⟨bm, ob, b1, b2, fun y => ?_, fun y => ?_, hid b3 (noscr fun l n y => ?_) (notab fun y => ?_), b4, b5, b6⟩
      · obtain ⟨o, es, ep, e, d, _⟩ := hns
        subst y
        rw [e] at b3; cases b3
        rw [d] at b6; cases b6
      · subst y
        rw [tp] at b3; cases b3; cases b6
      all_goals (rw [b6] at y; cases y)
    · intro y
      obtain ⟨o, es, ep, e, d, _⟩ := hns
      rw [y, tp] at e; cases e; cases d
  have env : Env0 P w K mg (hidT s₁.heap H) callerA [] s₁ H := ⟨rfl, bMod, fun _ _ => of_hidT, Nat.le_of_eq (hidT_size _ _), trivial, fun _ z => (nomatch (show _ ∈ ([] : List Addr) from z)), hok, .of_eq hg⟩
  refine codeAny_mono ((F _ bIn (keepNs hns) tabs).go callerA [] s₁ H ⟨[.ref a], []⟩ [.ref a] [.ref a] _ _ rfl hr env (hbind s₁ (.ref a)) (.cons rfl .nil) (hsp H (fun p hp => hpA_tab (bt p hp) na) sq)) ?_
  rintro (er | fl) s' z
  · exact (hCX H er s' z).elim
  cases fl with
  | ret u =>
    obtain ⟨v, H', eos, bare, un, ok', ru, ev⟩ := z
    have ev : v = .bl true := ev
    subst ev
    have eu : u = Value.bool true := ru
    subst eu
    have kept : ∀ b o, b ∉ ts → s₁.heap.get? b = some o → s'.heap.get? b = some o := fun b o nb e => by
      cases hb : H b with
      | none => exact un.keep b o e hb (fun y => nomatch (show b ∈ ([] : List Addr) from y)) (fun y => nomatch y)
      | some c =>
        rcases hpA_cases hb with ⟨_, _, rfl⟩ | ⟨m, _⟩
        · have k1 := (ok' b _ (un.frzs b _ _ hb)).1
          have k0 := (hok b _ hb).1
          have eo := Option.some.inj (k0.symm.trans e)
          rw [← eo]
          exact k1
        · exact absurd m nb
    have more : ∀ b, b ∈ ts → ∃ m : Array Value, s'.heap.get? b = some { cls := .none, data := .fields m } := fun b m => by
      obtain ⟨q, y⟩ := un.tbls b #[] (hpA_tab m na)
      exact ⟨_, ok' b _ y⟩
    refine ⟨rfl, ⟨fun b o e => ?_, fun b o e => ?_⟩, eos, bare⟩
    · by_cases m : b ∈ ts
      · obtain ⟨q, y⟩ := more b m
        have eo := Option.some.inj (e.symm.trans (at' b m))
        subst eo
        obtain ⟨p, hp, rfl⟩ := tb b m
        exact .inr (.inl ⟨((C p hp).tab (hT p hp)).isCodeTable, rfl, #[], q, rfl, by rw [Array.empty_append]; exact y⟩)
      · exact .inl (kept b o m e)
    · by_cases m : b ∈ ts
      · obtain ⟨q, y⟩ := more b m
        exact ⟨_, y⟩
      · exact ⟨o, kept b o m e⟩
  | next => exact False.elim z
  | brk => exact False.elim z
  | cont => exact False.elim z
/-- what the head's heap h tells of the law -/
def LawAtG (l : PySem.W.OpenLaw) (w : World) (K : PySem.W.Frag) (CX : CXT) (k n : Nat) (x : Str) (mg : Str → Option Value) (fa : Addr) (h : Heap) : Prop :=
  ∃ (fd : FuncData) (cs : List (Addr × Addr)) (sp : Sp), (∀ p ∈ cs, h.get? p.2 = some oTab) ∧ (∀ p ∈ cs, K.lookup p.2 = none) ∧ (∀ p ∈ cs, PySem.W.CodeHd h p.1 p.2) ∧ (∀ (s : Shared) (u : Value), BindsTo s fd ⟨[u], []⟩ [(x, u)]) ∧
    (∀ (H : Hp) (a : Addr) (ns : List Int), ns.length ≤ n → (∀ z ∈ ns, Builtin.Int.intBits z ≤ 1048576) → (∀ p ∈ cs, H p.2 = some (.tbl #[])) → SqF K H a (ns.map V.int) → sp [.ref a] H (fun v _ => v = .bl true) fun _ _ _ => False) ∧
    ∀ base : Heap, K.In base → base.Ns mainGlobals mg → (∀ p ∈ cs, TabB base mg p.1 p.2) → FnG l.prog w K mg base CX k fa fd [x] sp
theorem walk_ofG {l : PySem.W.OpenLaw} {n k : Nat} {q : Program} {loose : List Str} {XP : (Str → Option Value) → Heap → Prop} {YP : World → Heap → Prop} {d : DefRec} {CX : World → CXT} {x : Str}
    (hn : l.most = some n) (hn2 : n ≤ sizeLine) (hdf : d.params.defaults = []) (hr : Room k callerA)
    (F : ∀ (w : World) (mg : Str → Option Value) (fa : Addr) (h : Heap), YP w h → h.Ns mainGlobals mg → mg d.name = some (.ref fa) → ∃ K : PySem.W.Frag, K.In h ∧ LawAtG l w K (CX w) k n x mg fa h)
    (hCX : ∀ (w : World) (H : Hp) (s : Shared) (e : Value) (s' : Shared), CX w [] H s (fun _ _ _ => False) e s' → False) :
    PySem.W.WalkO q loose XP YP l.row.toRowW d [] (fun f vs => PySem.call f vs) := by
  refine Att.attach_callB hn hdf ?_
  intro w s₀ s₁ mg mb fa o pm cd doc a vs ns G Y _ _ _ hmg hobj hints hlen hbits hg
  obtain ⟨K, KX, fd, cs, sp, hT, nT, C, hb, hsp, hF⟩ := F w mg fa _ Y G.T.g hmg
  exact law_callG KX G.T.g G.T.b G.T.builtins G.T.nolimit hg hT nT C G.T.bmain hobj hints (Nat.le_trans hlen hn2) hr hF hb (fun H t z => hsp H a ns hlen hbits t z) fun H e s' z => hCX w H s₁ e s' z
end AF
/-! values that are data, shown by repr; a caught error's fields and classes; several clauses that name the error -/
namespace AF
open PySem PySem.Spec PyProof.Rows L2
mutual
/-- a value by its data -/
inductive Pv (H : Hp) : V → PyData → Prop
  | non : Pv H .non .none
  | bl (b : Bool) : Pv H (.bl b) (.bool b)
  | int (i : Int) : Pv H (.int i) (.int i)
  | str (x : Str) : Pv H (.str x) (.str x)
  | lst {a : Addr} {xs : List V} {ds : List PyData} (e : H a = some (.lst xs)) (r : PvAll H xs ds) : Pv H (.ref a) (.list ds)
  | tup {a : Addr} {xs : List V} {ds : List PyData} (e : H a = some (.tup xs)) (r : PvAll H xs ds) : Pv H (.ref a) (.tuple ds)
  | d0 {a : Addr} (e : H a = some (.dK [])) : Pv H (.ref a) (.dict [])
  | d1 {a : Addr} {i j : Int} (e : H a = some (.dK [(.inl i, .int j)])) : Pv H (.ref a) (.dict [(.int i, .int j)])
inductive PvAll (H : Hp) : List V → List PyData → Prop
  | nil : PvAll H [] []
  | cons {v : V} {vs : List V} {d : PyData} {ds : List PyData} (h : Pv H v d) (r : PvAll H vs ds) : PvAll H (v :: vs) (d :: ds)
end
mutual
theorem Pv.ch {H H' : Hp} (c : Ch [] H H') : ∀ (d : PyData) (v : V), Pv H v d → Pv H' v d
  | .none, _, h => by cases h; exact .non
  | .bool b, _, h => by cases h; exact .bl b
  | .int i, _, h => by cases h; exact .int i
  | .str x, _, h => by cases h; exact .str x
  | .list ds, _, h => by cases h with | lst e r => exact .lst (c _ _ e List.not_mem_nil) (PvAll.ch c ds _ r)
  | .tuple ds, _, h => by cases h with | tup e r => exact .tup (c _ _ e List.not_mem_nil) (PvAll.ch c ds _ r)
  | .dict ps, _, h => by cases h with
    | d0 e => exact .d0 (c _ _ e List.not_mem_nil)
    | d1 e => exact .d1 (c _ _ e List.not_mem_nil)
theorem PvAll.ch {H H' : Hp} (c : Ch [] H H') : ∀ (ds : List PyData) (vs : List V), PvAll H vs ds → PvAll H' vs ds
  | [], _, h => by cases h; exact .nil
  | d :: ds, _, h => by cases h with | cons k r => exact .cons (Pv.ch c d _ k) (PvAll.ch c ds _ r)
end
mutual
/-- without dicts -/
def noDicB : PyData → Bool
  | .list ds => noDicsB ds
  | .tuple ds => noDicsB ds
  | .dict _ => false
  | _ => true
def noDicsB : List PyData → Bool
  | [] => true
  | d :: ds => noDicB d && noDicsB ds
end
mutual
theorem Pv.dp {K : PySem.W.Frag} {H : Hp} : ∀ (d : PyData) (v : V), Pv H v d → noDicB d = true → Dp K H v d
  | .none, _, h, _ => by cases h; exact .non
  | .bool b, _, h, _ => by cases h; exact .bl b
  | .int i, _, h, _ => by cases h; exact .int i
  | .str x, _, h, _ => by cases h; exact .str x
  | .list ds, _, h, n => by cases h with | lst e r => exact .lst (SqL.of e) (PvAll.dp ds _ r n)
  | .tuple ds, _, h, n => by cases h with | tup e r => exact .tup (SqT.of e) (PvAll.dp ds _ r n)
  | .dict ps, _, _, n => by cases n
theorem PvAll.dp {K : PySem.W.Frag} {H : Hp} : ∀ (ds : List PyData) (vs : List V), PvAll H vs ds → noDicsB ds = true → DpAll K H vs ds
  | [], _, h, _ => by cases h; exact .nil
  | d :: ds, _, h, n => by
    cases h with
    | cons k r =>
      obtain ⟨n1, n2⟩ := Bool.and_eq_true_iff.mp n
      exact .cons (Pv.dp d _ k n1) (PvAll.dp ds _ r n2)
end
mutual
theorem noDic_has : ∀ d : PyData, noDicB d = true → d.hasDict = false
  | .none, _ => rfl
  | .bool _, _ => rfl
  | .int _, _ => rfl
  | .str _, _ => rfl
  | .list ds, h => noDics_has ds h
  | .tuple ds, h => noDics_has ds h
  | .dict _, h => by cases h
theorem noDics_has : ∀ ds : List PyData, noDicsB ds = true → PyData.hasDictAll ds = false
  | [], _ => rfl
  | d :: ds, h => by
    obtain ⟨h1, h2⟩ := Bool.and_eq_true_iff.mp h
    simp only [PyData.hasDictAll, noDic_has d h1, noDics_has ds h2, Bool.or_false]
end
theorem vals1' {v : V} {us : List Value} (r : Vals [v] us) : ∃ u, us = [u] ∧ RelV v u := by
  cases r with
  | cons h t => cases t; exact ⟨_, rfl, h⟩
/-- the type's name -/
def tyN : PyData → String
  | .none => "NoneType"
  | .bool _ => "bool"
  | .int _ => "int"
  | .str _ => "str"
  | .list _ => "list"
  | .tuple _ => "tuple"
  | .dict _ => "dict"
theorem Pv.ty {K : PySem.W.Frag} {H : Hp} {v : V} {d : PyData} (h : Pv H v d) : TyX K H v (.type (tyN d)) := by
  cases h with
  | non => exact .base .non
  | bl b => exact .base (.bl b)
  | int i => exact .base (.int i)
  | str x => exact .base (.str x)
  | lst e r => exact .base (.lst e)
  | tup e r => exact .base (.tup e)
  | d0 e => exact .base (.dK e)
  | d1 e => exact .base (.dK e)
/-- isinstance(x, T), T a built-in type -/
theorem g_isP {K : PySem.W.Frag} {H : Hp} {Q : VK} {v : V} {d : PyData} {T : String} {b : Bool} (h : Pv H v d) (e : kitB (tyN d) T = some b) (q : Q (.bl b) H) : rIsi K [v, .ty T] H Q := g_isi (.ty T) h.ty (kit_ty e) q
def topD : PyData → Bool
  | .dict _ => true
  | _ => false
section
variable {X : Cx} {pins : List (Addr × Obj)} {σ : L2.St} {H : Hp} {s : Shared}
def encK : Key → PyData
  | .inl i => .int i
  | .inr x => .str x
theorem Pv.reads (I : Inv X pins σ H s) {v : V} {u : Value} {d : PyData} (h : Pv H v d) (r : RelV v u) (n : noDicB d = true ∨ topD d = true) : ∃ as, Reads s.heap u d as ∧ (topD d = true → sysModules ∉ as) := by
  rcases n with n | n
  · obtain ⟨as, z⟩ := Dp.reads I d v u (h.dp (K := X.K) d v n) r
    exact ⟨as, z, fun y => by cases d <;> first | (cases y; done) | (cases n; done)⟩
  · have key : ∀ (k : Key) (kv : Value), (mixKind X.prog X.w).is k kv = true → Reads s.heap kv (encK k) [] := fun k kv e => by
      rcases keyIs_shape (show keyIs k kv = true from e) with ⟨i, t, rfl, rfl⟩ | ⟨x, t, rfl, rfl⟩
      · exact .int i t
      · exact .str x t
    have fin : ∀ {a : Addr}, (a == sysModules) = false → sysModules ∉ [a] := fun sm z => by
      rw [List.mem_singleton] at z
      rw [← z] at sm
      simp at sm
    cases h with
    | d0 e =>
      rename_i a
      cases (show u = Value.ref a from r)
      obtain ⟨_, sm, vs, kv, dd⟩ := (show ObjOk X.prog X.w H s.heap a (.dK []) from I.hok a _ e)
      cases (show Paired _ [] vs from kv)
      exact ⟨_, PyProof.V.reads_dictOf (enc := encK) key dd .nil, fun _ => fin sm⟩
    | d1 e =>
      rename_i a i j
      cases (show u = Value.ref a from r)
      obtain ⟨_, sm, vs, kv, dd⟩ := (show ObjOk X.prog X.w H s.heap a (.dK _) from I.hok a _ e)
      cases (show Paired _ _ vs from kv) with
      | @cons p q ps qs h1 h2 =>
        cases h2
        obtain ⟨k, y⟩ := q
        obtain ⟨e1, e2⟩ := h1
        cases (show (Sum.inl i : Key) = k from e1)
        obtain ⟨t, rfl⟩ := (show ∃ t, y = Value.int j t from e2)
        exact ⟨_, PyProof.V.reads_dictOf (enc := encK) (D := [(.int i, .int j)]) key dd (PyProof.V.PairsRead.cons (.int j t) .nil), fun _ => fin sm⟩
    | _ => cases n
end
/-- what repr may show at once -/
def showB (d : PyData) : Bool := d.showable && (Nat.ble d.depth 60 && (Nat.ble d.shown.length 1000 && (noDicB d || topD d)))
/-- repr of a value -/
inductive RepO (H : Hp) : V → Str → Prop
  | non : RepO H .non "None"
  | bl (b : Bool) : RepO H (.bl b) (if b then "True" else "False")
  | int {i : Int} (h : i.natAbs.log2 < 1920) : RepO H (.int i) (toString i)
  | str {x : Str} (h : Nat.ble (reprText x).length 1000 = true) : RepO H (.str x) (reprText x)
  | box {a : Addr} {d : PyData} (h : Pv H (.ref a) d) (s : showB d = true) : RepO H (.ref a) d.shown
theorem RepO.ch {H H' : Hp} {v : V} {z : Str} (h : RepO H v z) (c : Ch [] H H') : RepO H' v z := by
  cases h with
  | non => exact .non
  | bl b => exact .bl b
  | int h => exact .int h
  | str h => exact .str h
  | box h s => exact .box (h.ch c) s
theorem RepO.of {H : Hp} {v : V} {d : PyData} (h : Pv H v d) (s : showB d = true) : RepO H v d.shown := by
  obtain ⟨s1, s2⟩ := Bool.and_eq_true_iff.mp s
  obtain ⟨s2, s3⟩ := Bool.and_eq_true_iff.mp s2
  obtain ⟨s3, s4⟩ := Bool.and_eq_true_iff.mp s3
  cases h with
  | non => simp only [PyData.shown]; exact .non
  | bl b => simp only [PyData.shown]; exact .bl b
  | int i => simp only [PyData.shown]; exact .int (of_decide_eq_true s1)
  | str x => simp only [PyData.shown] at s3 ⊢; exact .str s3
  | lst e r => exact .box (.lst e r) s
  | tup e r => exact .box (.tup e r) s
  | d0 e => exact .box (.d0 e) s
  | d1 e => exact .box (.d1 e) s
def rRep : List V → Hp → VK → Prop := fun xs H Q => ∃ v z, xs = [v] ∧ RepO H v z ∧ Q (.str z) H
theorem cl_rep {X : Cx} (hG : X.A.guards = some []) (hu : X.A.units + 100 < cLine) : CallR X (.builtin "repr") rRep := by
  intro pins s σ H xs us Q I r h
  obtain ⟨v, z, rfl, hz, q⟩ := h
  obtain ⟨u, rfl, ru⟩ := vals1' r
  cases hz with
  | non => cases ru; exact PySem.P.repr_of_none ⟨.str _, H, I.tok _, ⟨_, rfl⟩, q⟩
  | bl b => cases ru; exact PySem.P.repr_of_bool ⟨.str _, H, I.tok _, ⟨_, rfl⟩, q⟩
  | int hi =>
    obtain ⟨t, rfl⟩ := ru
    exact PySem.P.repr_of_int hi ⟨.str _, H, I.tok _, ⟨_, rfl⟩, q⟩
  | str hx =>
    obtain ⟨t, rfl⟩ := ru
    exact PySem.P.repr_of_str ⟨.str _, H, I.tok _, ⟨_, rfl⟩, q⟩ (line_of hx)
  | @box a d hp sh =>
    obtain ⟨s1, s2⟩ := Bool.and_eq_true_iff.mp sh
    obtain ⟨s2, s3⟩ := Bool.and_eq_true_iff.mp s2
    obtain ⟨s3, s4⟩ := Bool.and_eq_true_iff.mp s3
    have s2 := Nat.le_of_ble_eq_true s2
    have nd : noDicB d = true ∨ topD d = true := Bool.or_eq_true_iff.mp s4
    obtain ⟨as, rd, sm⟩ := hp.reads I ru nd
    cases (show u = Value.ref a from ru)
    have hd : d.hasDict = true → topD d = true := fun y => nd.elim (fun n => absurd y (by rw [noDic_has d n]; simp)) id
    exact repr_of_reads' rd s1 (fun y => sm (hd y)) hG (by omega) (fun _ _ e => e) (fun h' t tk k => ⟨.str _, H, I.kept k, ⟨_, rfl⟩, q⟩) (line_of s3)
end AF
/-! isinstance of a caught error that has a dict; several clauses that name the error -/
namespace AF
open PySem PySem.Spec PyProof.Rows L2
section
open PySem.W (Frag InstAt Looks findIn specialIn takesIn clsIn hasDictIn looks_findIn looks_find looks_subIn any_some KitX class_get)
variable {prog : Program} {w : World} {A : Around} {E : Value → Shared → Prop} {s : Shared} {K : Frag} {x D : Addr} {ox : Obj} {od : Option Obj}
/-- a data descriptor of the class is asked ahead of the own dict -/
theorem find_data {nm : Str} {f g : Value} (hc : (clsIn K D).isSome = true) (h1 : findIn K (.ref D) nm = some (some f)) (h2 : specialIn K f "__get__" = some (some g)) (h3 : takesIn K f = some true) : PySem.W.findObj K D od nm = some (.bind g f) := by
  cases e : clsIn K D with
  | none => rw [e] at hc; cases hc
  | some cd =>
    unfold PySem.W.findObj
    simp only [e, h1, h2, h3, Option.bind_some]
open PySem.Calls in
theorem err_class {Q : Option Value → Shared → Prop} (C : ExcC K D) (KX : K.In s.heap) (I : InstAt s.heap x ox D od) (q : Q (some (.ref D)) { s with toks := s.toks + 1 }) : wpAny (model prog w) A (getAttr? (.ref x) "__class__") Q E s := by
  have isC : (clsIn K D).isSome = true := by
    obtain ⟨cd, e, _⟩ := any_some C.hd
    rw [e]; rfl
  have found := find_data (od := od) isC C.ha C.hn C.ht
  obtain ⟨hh, gs, dr, tk, os⟩ := s
  have lt := I.type (M := model prog w)
  have lg := looks_findIn (M := model prog w) KX C.hg
  have lk := looks_findIn (M := model prog w) KX C.hk
  have lf := looks_find (M := model prog w) KX I found
  have lb : Looks (model prog w) hh (isInstance (.ref x) (.type "BaseException")) true := lt.andThen (looks_subIn KX C.hs)
  have b0 : (Value.builtin "BaseException.__getattribute__" == Value.builtin "object.__getattribute__") = false := by decide +kernel
  unfold getAttr? getAttrBy? getAttrBy
  refine wpAny_bind (wpAny_mkText (wpAny_bind (wpAny_attempt (wpAny_holding (wpAny_bind (lt.at (wpAny_bind (lg.at ?_))))))))
  have b1 : ¬ (onTheHeap (Value.ref D) && Value.builtin "BaseException.__getattribute__" == Value.builtin "object.__getattribute__") = true := by rw [b0, Bool.and_false]; exact Bool.false_ne_true
  dsimp only
  rw [if_neg b1]
  unfold getAttrByItsOwn hookBefore
  refine wpAny_bind ?_
  rw [if_pos (show onTheHeap (Value.ref D) = true from rfl)]
  refine lk.at (wpAny_bind (wpAny_attempt (wpAny_holding ?_)))
  unfold callGetattribute
  rw [if_neg (show ¬ (false && onTheHeap (Value.builtin "BaseException.__getattribute__")) = true from Bool.false_ne_true)]
  unfold boundAndCalled
  rw [PySem.F.excAttr_ValueError.ga.bind (.ref x)]
  refine wpAny_bind (wpAny_pure (wpAny_call (codeAny_call_builtin PySem.F.excAttr_ValueError.ga.plain PySem.F.entry_bexc_ga ?_)))
  refine @PySem.W.check_slot (model prog w) _ _ ⟨hh, gs, dr, tk + 1, os⟩ "BaseException.__getattribute__" "BaseException" "__getattribute__" (.ref x) [.str "__class__" tk] [] _ (by decide +kernel) (by decide +kernel) lb (PySem.F.args_bexc_ga _ _) ?_
  unfold Builtin.«object.__getattribute__»
  refine wpAny_bind (wpAny_of_eq (a := ((Value.ref x : Value), [Value.str "__class__" tk])) (by first | rfl | (simp only [slotArgs]; rfl)) (wpAny_bind (wpAny_pure (wpAny_bind (lt.at (wpAny_bind (lf.at ?_)))))))
  dsimp only
  refine wpAny_bind (wpAny_holding (wpAny_call (class_get (s := ⟨hh, gs, dr, tk + 1, os⟩) KX I C.hm ?_)))
  refine wpAny_pure ?_
  dsimp only
  rw [PySem.W.handedOut_of (v := .ref D) rfl]
  first
    | exact wpAny_pure (wpAny_pure q)
    | exact wpAny_pure q
    | exact wpAny_pure (wpAny_bind (wpAny_pure (wpAny_pure q)))
theorem kit_err (C : ExcC K D) : KitX K (.ref x) (.ref D) (fun h => InstAt h x ox D od) := by
  have there : ∀ h : Heap, K.In h → ∃ o cd, h.get? D = some o ∧ o.data = .cls cd := fun h KX => by
    obtain ⟨cd, e, _⟩ := any_some C.hd
    unfold clsIn at e
    split at e
    · rename_i c d cd' sl ho
      exact ⟨_, _, KX _ _ ho, rfl⟩
    · cases e
  refine ⟨fun _ _ _ I => I.type, fun M h KX _ => ?_, fun h tp dd its n sl KX htp => ?_, fun KX I k => err_class C KX I k⟩
  · obtain ⟨o, cd, ho, hd⟩ := there h KX
    intro A' Q' E' s' k q
    unfold isType loadHead
    refine wpAny_bind (wpAny_loadPart (k _ _ ho) ?_)
    rw [hd]
    exact wpAny_pure q
  · obtain ⟨o, cd, ho, hd⟩ := there h KX
    refine Bool.eq_false_iff.mpr fun z => ?_
    have e : D = tp := Value.ref.inj (beq_iff_eq.mp z)
    subst e
    have e2 := Option.some.inj (ho.symm.trans htp)
    subst e2
    cases hd
end
/-- isinstance(e, c), e the error that the suite holds, with its dict -/
def rIsX (K : PySem.W.Frag) (a : Addr) (cls : Value) (d : Option Addr) (C : Addr) : List V → Hp → VK → Prop := fun xs H Q => ∃ (c : V) (cv : Value) (b : Bool) (dd : Addr) (fs : List (Str × V)), xs = [.ref a, c] ∧ cls = .ref C ∧ d = some dd ∧ H dd = some (.xd fs) ∧
  ClsV c cv ∧ PySem.W.kitOne K (.ref C) cv = some b ∧ Q (.bl b) H
theorem cl_isX {X : Cx} {a C : Addr} {oe : Obj} {cls : Value} {d : Option Addr} {pn : List (Addr × Obj)} (T : ExcC X.K C) (hz : Zc cls d oe) (hf : ∃ vs, oe.data = .fields vs) : CallR (X.suite a ((a, oe) :: pn)) (.builtin "isinstance") (rIsX X.K a cls d C) := by
  intro pins s σ H xs us Q I r h
  obtain ⟨c, cv, b, dd, fs, rfl, rfl, rfl, hx, kc, e, q⟩ := h
  cases r with
  | @cons _ u0 _ ur rx rr =>
    cases rr with
    | @cons _ u1 _ ur2 rt rn =>
      cases rn
      cases (show u0 = Value.ref a from rx)
      have e1 := kc.eq rt
      subst e1
      obtain ⟨hget, _⟩ := I.pin (a, oe) (List.mem_append.mpr (.inl List.mem_cons_self))
      obtain ⟨vs, hv⟩ := hf
      obtain ⟨mA, ⟨od, es, ep, ho, hr⟩, rel⟩ := (show ObjOk X.prog X.w H s.heap dd (.xd fs) from I.hok dd _ hx)
      have J : PySem.W.InstAt s.heap a oe C (some od) := by
        refine ⟨hget, hz.1, ?_, ?_⟩
        · unfold PySem.W.notCls; rw [hv]
        · rw [hz.2]; exact ho
      exact PySem.W.kia_one (kit_err T) I.kIn J e (fun z => nomatch z) fun tk => ⟨.bl b, H, I.kept (t' := tk) fun _ _ z => z, rfl, q⟩
/-- steps: e.f, isinstance(e, c) -/
def kXf (a : Addr) (cls : Value) (d : Option Addr) (C : Addr) (f : Str) (Q : VK) (x : V) (H1 : Hp) : Prop := x = .ref a ∧ cls = .ref C ∧ ∃ (dd : Addr) (fs : List (Str × V)) (v : V), d = some dd ∧ H1 dd = some (.xd fs) ∧ fs.lookup f = some v ∧ Q v H1
section
variable {K : PySem.W.Frag} {H : Hp} {Q : VK} {a C dd : Addr} {f : Str} {v : V} {σ : L2.St} {te : TE} {cls : Value} {d : Option Addr}
instance : Step (tXf a cls d C f te σ H Q) (te σ H (kXf a cls d C f Q)) := ⟨fun h => h⟩
theorem g_xf {fs : List (Str × V)} (h : H dd = some (.xd fs)) (e : fs.lookup f = some v) (q : Q v H) : kXf a (.ref C) (some dd) C f Q (.ref a) H := ⟨rfl, rfl, dd, fs, v, rfl, h, e, q⟩
theorem g_isX {fs : List (Str × V)} {c : V} {cv : Value} {b : Bool} (h : H dd = some (.xd fs)) (kc : ClsV c cv) (e : PySem.W.kitOne K (.ref C) cv = some b) (q : Q (.bl b) H) : rIsX K a (.ref C) (some dd) C [.ref a, c] H Q :=
  ⟨c, cv, b, dd, fs, rfl, rfl, rfl, h, kc, e, q⟩
end
/-! several clauses, each one with the name n in slot i -/
def offI (i : Nat) (D : Ends) : Ends := { nx := fun σ H => D.nx (σ.set i none) H, rt := D.rt, bk := fun σ H => D.bk (σ.set i none) H, ct := fun σ H => D.ct (σ.set i none) H }
def wNam (K : PySem.W.Frag) (i : Nat) (Wout : WX) (D : Ends) : List (Value × (Addr → Value → Option Addr → TS)) → WX
  | [] => Wout
  | (c, ts) :: r => fun cls d σ H => ∃ b, PySem.W.exmOne K cls c = some b ∧ (b = true → ∀ a, H a = none → ts a cls d (offI i D) (σ.set i (some (.ref a))) H) ∧ (b = false → wNam K i Wout D r cls d σ H)
inductive HdN (X : Cx) (n : Str) : List ExceptHandler → List (Value × (Addr → Value → Option Addr → TS)) → Prop
  | nil : HdN X n [] []
  | cons {x : Str} {c : Value} {ts : Addr → Value → Option Addr → TS} {b₀ : Stmt} {suite : List Stmt} {np p' : Pos} {hds : List ExceptHandler} {l : List (Value × (Addr → Value → Option Addr → TS))} (hc : Names X x c)
      (hsu : ∀ (a : Addr) (oe : Obj) (cls : Value) (d : Option Addr) (pn : List (Addr × Obj)), Zc cls d oe → (∃ vs, oe.data = .fields vs) → PSs (X.suite a ((a, oe) :: pn)) (b₀ :: suite) (ts a cls d)) (r : HdN X n hds l) :
      HdN X n (.ExceptHandler (some (.Name x np)) (some n) (b₀ :: suite) p' :: hds) ((c, ts) :: l)
section
variable {X : Cx} {n : Str} {i : Nat} {body : List Stmt} {h₀ : ExceptHandler} {hds : List ExceptHandler} {l : List (Value × (Addr → Value → Option Addr → TS))} {pos : Pos} {tb : WX → TS} {Wout : WX}
theorem ps_try_nam (hs : X.stack = X.env :: X.outer) (hf : X.env.frame = some X.env.locals) (hN : X.N.Nodup) (hi : X.N[i]? = some n) (hln : X.env.kindOf n = some .local) (tk : Takes X Wout)
    (hb : ∀ (W : WX) (pn : List (Addr × Obj)) (xe : Value → Shared → Prop), Takes (X.tr pn xe) W → PassesOwn (model X.prog X.w) X.A X.env xe → PSs (X.tr pn xe) body (tb W))
    (hh : HdN X n (h₀ :: hds) l) : PS X (.Try body (h₀ :: hds) [] [] pos) (fun D σ H => tb (wNam X.K i Wout D l) D σ H) := by
  constructor
  intro pins s σ H D I h
  have ok := I.ok
  have frm : X.A.frames = some (X.env :: X.outer) := by rw [ok.frames, hs]
  have own : Loc X.env.scope n := .inl hln
  -- the suites, one behind the other, for the error at a
  let caught : Value → Shared → Prop := fun e s₁ => wpAny (model X.prog X.w) X.A (noteFrame e X.env) (fun _ s₂ => wpAny (model X.prog X.w) X.A (setFlight e none) (fun _ s₃ =>
    wpAny (model X.prog X.w) X.A (handleBy e X.env (h₀ :: hds)) (SP X pins D) X.xe s₃) X.xe s₂) X.xe s₁
  have land : Takes (X.tr (X.pn ++ pins) caught) (wNam X.K i Wout D l) := by
    rintro u s' ⟨a, B, sI, pins', σ', H', cls, d, rfl, J', nb, up, sky, na, eos, ag, w⟩
    have J : Inv X pins σ' H' sI := J'.ofTry ok
    have sky1 : Sky B (X.env :: X.outer) a (Zc cls d) X.env.locals s'.heap := by rw [← hs]; exact sky
    refine Sky.land Zc.steady frm hf sky1 fun h1 fl up1 => ?_
    have onGround : ∀ h2, B.StaysIn h2 → h1.UpToSlots h2 → Inv X pins σ' H' { s' with heap := h2 } := fun h2 st up2 => J.landed nb st ((up.trans up1).trans up2) eos ag
    have J1 := onGround h1 fl.1 (Heap.UpToSlots.refl _)
    obtain ⟨o1, v1, e1, z1, d1⟩ := fl.there
    have off : a ∉ frs (X.env :: X.outer) := fun m => by
      obtain ⟨_, o', e', nf⟩ := fl.2.2.1.mem m
      have y := Option.some.inj (e1.symm.trans e')
      subst y
      exact nf _ d1
    have nL : a ≠ X.env.locals := fun z => off (List.mem_filterMap.mpr ⟨X.env, List.mem_cons_self, by rw [hf, z]⟩)
    have nF : a ∉ X.fs := fun m => by
      obtain ⟨e, he, y⟩ := List.mem_filterMap.mp m
      exact off (List.mem_filterMap.mpr ⟨e, List.mem_cons_of_mem _ he, y⟩)
    have S1 := J1.suite e1 d1 na nL nF
    have each : ∀ {hs' : List ExceptHandler} {l' : List (Value × (Addr → Value → Option Addr → TS))}, HdN X n hs' l' → wNam X.K i Wout D l' cls d σ' H' →
        wpAny (model X.prog X.w) X.A (handleBy (.ref a) X.env hs') (SP X pins D) X.xe { s' with heap := h1 } := by
      intro hs' l' k
      induction k with
      | nil =>
        intro w
        refine wpAny_handleBy_nil ?_
        obtain ⟨_, _, _, oe, vs, T, oT, ts', he, hz, hd, hT, _⟩ := id fl
        unfold PySem.passOn
        refine wpAny_bind (wpAny_field he hd hT ?_)
        rw [if_neg (show ¬ ((Value.ref T == Value.none) = true) from by simp)]
        have out : wpAny (model X.prog X.w) X.A (setFlight (.ref a) X.env.frame) (fun _ s4 => wpAny (model X.prog X.w) X.A (throw (.ref a) : Sem Flow) (SP X pins D) X.xe s4) X.xe { s' with heap := h1 } := by
          rw [hf]
          exact HandSPX.setFlight_upZ fl fun h2 held up2 => wpAny_throw (tk _ _ ⟨a, B, sI, pins, σ', H', cls, d, rfl, J, nb, (up.trans up1).trans up2, .inr (.inr (by rw [hs]; exact held)), na, eos, ag, w⟩)
        first
          | exact wpAny_bind (wpAny_pure (wpAny_bind out))
          | exact wpAny_bind out
      | @cons x c ts b₀ suite np p' hd2 l2 hc hsu r ih =>
        intro w
        obtain ⟨b, hb1, yes, no⟩ := w
        refine wpAny_handleBy_cons (codeAny_handlers_test ?_) (fun q => nomatch q)
        have isT : PySem.W.Looks (model X.prog X.w) h1 (typeOf (.ref a)) cls := fun _ _ _ _ k q => wpAny_typeOf_ref (k _ _ e1) (by rw [z1.1]; exact q)
        have named : ∀ {Q E : Value → Shared → Prop}, Q c { s' with heap := h1 } → wpAny (model X.prog X.w) (X.A.mark (some (.ref a))) (eval (.Name x np) X.env) Q E { s' with heap := h1 } := fun q => by
          obtain ⟨hg, dbg, z⟩ := hc
          rcases z with z | ⟨z, zv, zn⟩
          · exact ld_glob (X := X.suite a ((a, o1) :: (X.pn ++ pins))) S1 hg z q dbg
          · exact ld_blt (X := X.suite a ((a, o1) :: (X.pn ++ pins))) S1 hg z zv q zn dbg
        refine named ((PySem.W.exm_one (M := model X.prog X.w) J1.kIn isT hb1).here ?_)
        cases b with
        | false =>
          show wpAny _ X.A (handleBy (.ref a) X.env hd2) _ _ _
          exact ih (no rfl)
        | true =>
          refine codeAny_handlers_suite_as (HandSPX.lands_againZ fl fun h2 fl2 up2 => ?_)
          have J2 := onGround h2 fl2.1 up2
          obtain ⟨o2, v2, e2, z2, d2⟩ := fl2.there
          refine store_ok (X := X.suite a ((a, o2) :: (X.pn ++ pins))) (v := .ref a) (J2.suite e2 d2 na nL nF) hN hi own rfl (fun s3 S3 => ?_) (.inr hln)
          refine wpAny_mono ((hsu a o2 cls d (X.pn ++ pins) z2 ⟨_, d2⟩).run [] s3 _ H' _ S3 (yes rfl a na)) ?_ (fun _ _ z => False.elim z)
          intro fw s4 hsp
          have gone : ∀ {σ4 : L2.St} {H4 : Hp} {R : Shared → Prop}, Inv (X.suite a ((a, o2) :: (X.pn ++ pins))) [] σ4 H4 s4 → (∀ s5, Inv X pins (σ4.set i none) H4 s5 → R s5) →
              wpAny (model X.prog X.w) X.A (do bindName X.env n .none; unbindBehindTheSuite X.env n p') (fun _ s5 => R s5) X.xe s4 := fun S4 hR => gone_ok (S4.unsuite ok) hN hi hln hR
          cases fw with
          | ret u =>
            obtain ⟨v4, σ4, H4, S4, r4, q4⟩ := hsp
            exact gone S4 fun s5 J5 => ⟨_, _, _, J5, r4, q4⟩
          | _ =>
            obtain ⟨σ4, H4, S4, q4⟩ := hsp
            exact gone S4 fun s5 J5 => ⟨_, _, J5, q4⟩
    exact each hh w
  refine wpAny_Try_except (wpAny_mono ((hb (wNam X.K i Wout D l) (X.pn ++ pins) caught land PassesOwn.looking).run [] s σ H D (I.toTry _) h) ?_ (fun e s1 z => z))
  intro fw s1 hsp
  cases fw with
  | next =>
    obtain ⟨σ1, H1, J1, q⟩ := hsp
    exact wpAny_execs_nil ⟨σ1, H1, J1.ofTry ok, q⟩
  | ret u =>
    obtain ⟨v, σ1, H1, J1, r, q⟩ := hsp
    exact ⟨v, σ1, H1, J1.ofTry ok, r, q⟩
  | _ =>
    obtain ⟨σ1, H1, J1, q⟩ := hsp
    exact ⟨σ1, H1, J1.ofTry ok, q⟩
end
end AF
/-! calls within a try: what is raised is wished for at the slots; x.get(k, v) of a dict; t.index(x) -/
namespace AF
open PySem PySem.Spec PyProof.Rows L2
def tCallW (sp : Sp) (W : WX) (t : TA) : TE := fun σ H Q => t σ H fun vs H1 => sp vs H1 Q (fun cls d H' => W cls d σ H')
section
variable {X : Cx} {k : Nat} {f : Addr} {ps : List Str} {sp : Sp} {W : WX} {x : Str} {p pos : Pos} {e : Expr} {es : List Expr} {t : TA}
theorem pe_dnW (D : Dn X.prog X.w X.K X.mg X.base k f ps sp) (hr : Room k X.A) (hg : Gl X x) (hm : X.mg x = some (.ref f)) (tk : Takes X W) (ha : PA X (e :: es) t) (hdb : (x == ("__debug__" : Str)) = false := by decide)
    (he : starEach (e :: es) X.env = (false, eval e X.env) :: starEach es X.env := by rfl) (hpl : (backTo pos (starEach es X.env)).any (·.1) = false := by rfl) : PE X (.Call (.Name x p) (e :: es) [] pos) (tCallW sp W t) := by
  obtain ⟨fd, F, b⟩ := D.ex
  have z := pe_callSD (E := fun σ cls d H' => W cls d σ H') (p := p) F hr hg hm D.kp b .nil (fun σ => fun pins H s e s' I c => tk e s' (XE.of_call I (fun _ _ _ h => h) c)) ha hdb he hpl
  refine ⟨fun pins s σ H Q I h => z.run pins s σ H Q I ?_⟩
  show t σ H fun vs H1 => sp (vs ++ []) H1 Q (fun cls d H' => W cls d σ H')
  have e1 : (fun (vs : List V) (H1 : Hp) => sp (vs ++ []) H1 Q (fun cls d H' => W cls d σ H')) = fun vs H1 => sp vs H1 Q (fun cls d H' => W cls d σ H') := by
    funext vs H1
    rw [List.append_nil]
  rw [e1]
  exact h
end
instance {sp : Sp} {W : WX} {t : TA} {σ : L2.St} {H : Hp} {Q : VK} : Step (tCallW sp W t σ H Q) (t σ H fun vs H1 => sp vs H1 Q (fun cls d H' => W cls d σ H')) := ⟨fun h => h⟩
/-! d.get(k, v) -/
def kG2 (ty tx : TE) (σ : L2.St) (Q : VK) (x : V) (H1 : Hp) : Prop := ∃ a, x = .ref a ∧ IsD H1 a ∧ ty σ H1 fun y H2 => tx σ H2 fun z H3 => ∃ o, DGet H3 a y o ∧ Q (o.getD z) H3
def kG3 (a : Addr) (Q : VK) (y z : V) (H3 : Hp) : Prop := ∃ o, DGet H3 a y o ∧ Q (o.getD z) H3
section
variable {K : PySem.W.Frag} {H : Hp} {Q : VK} {a p : Addr} {kvs : List (Key × V)} {td ty tx : TE} {σ : L2.St} {s : Str} {z : V} {o : Option V}
instance : Step (tDGet2 td ty tx σ H Q) (td σ H (kG2 ty tx σ Q)) := ⟨fun h => h⟩
theorem g_kg2 (h : H a = some (.dK kvs)) (q : ty σ H fun y H2 => tx σ H2 (kG3 a Q y)) : kG2 ty tx σ Q (.ref a) H := ⟨a, rfl, .inl ⟨kvs, .inl h⟩, q⟩
theorem g_kg3 (h : H a = some (.dK kvs)) (e : valV kvs (.inr s) = o) (q : Q (o.getD z) H) : kG3 a Q (.str s) z H := by
  subst e
  exact ⟨_, DGet.k (k := .inr s) h, q⟩
theorem g_kgS {v : V} (h : H a = some (.dK kvs)) (e : valV kvs (.inr s) = some v) (q : Q v H) : kG3 a Q (.str s) z H := g_kg3 h e q
theorem g_kgN (h : H a = some (.dK kvs)) (e : valV kvs (.inr s) = none) (q : Q z H) : kG3 a Q (.str s) z H := g_kg3 h e q
end
/-! t.index(x) of texts -/
def rIdx (K : PySem.W.Frag) : V → List V → Hp → VK → Prop := fun x xs H Q => ∃ p, ∃ ys : List Str, ∃ z j, x = .ref p ∧ xs = [.str z] ∧ SqT K H p (ys.map V.str) ∧ ys[j]? = some z ∧ (∀ m, m < j → ys[m]? ≠ some z) ∧ Q (.int (j : Nat)) H
theorem mt_idxK {X : Cx} {K : PySem.W.Frag} (hK : X.K = K := by rfl) : MtR X "tuple.index" (rIdx K) := hK ▸ mt_tup_index
section
variable {X : Cx} {K : PySem.W.Frag} {o e : Expr} {es : List Expr} {to : TE} {t : TA} {name : Str} {apos cpos : Pos} {T id : String} {r : V → List V → Hp → VK → Prop}
theorem pe_bmK (pa : PlainAttrs T) (slot : Slot T name id) (hty : typeOf (.builtin id) = pure (.type "method_descriptor")) (hm : MtR X id r) (ho : PE X o to) (ha : PA X (e :: es) t)
    (hbase : attributeBase o name X.env (eval o X.env) = eval o X.env := by rfl)
    (hfew : ((backTo cpos (starEach (e :: es) X.env)).all (fun x => !x.1) && (backToKw cpos (keywordEach [] X.env)).all (fun x => x.1.isSome)
      && decide ((e :: es).length + ([] : List Keyword).length + (if ([] : List Keyword).isEmpty then 0 else 1) < 30)) = true := by rfl)
    (hline : (apos.endLine == cpos.line) = true := by rfl) (hs : starEach (e :: es) X.env = (false, eval e X.env) :: starEach es X.env := by rfl) (hplain : (backTo cpos (starEach es X.env)).any (·.1) = false := by rfl) (hK : X.K = K := by rfl) :
    PE X (.Call (.Attribute o name apos) (e :: es) [] cpos) (tBM K T r to t) := hK ▸ pe_bm pa slot hty hm ho ha hbase hfew hline hs hplain
theorem g_idx {H : Hp} {Q : VK} {p : Addr} {ys : List Str} {z : Str} {j : Nat} (h : SqT K H p (ys.map V.str)) (e : ys[j]? = some z) (n : ∀ m, m < j → ys[m]? ≠ some z) (q : Q (.int (j : Nat)) H) : rIdx K (.ref p) [.str z] H Q := ⟨p, ys, z, j, rfl, rfl, h, e, n, q⟩
end
/-- a written tuple without a dict of its own -/
def tdB (K : PySem.W.Frag) (a : Addr) : Bool := match K.lookup a with
  | some ⟨.type c, d, _, _⟩ => decide (c = "tuple") && d.isNone
  | _ => false
theorem tdB_ok {K : PySem.W.Frag} {a : Addr} (h : tdB K a = true) : ∃ o, K.lookup a = some o ∧ o.cls = .type "tuple" ∧ o.dict = none := by
  unfold tdB at h
  split at h
  · rename_i c d x y e
    obtain ⟨h1, h2⟩ := Bool.and_eq_true_iff.mp h
    refine ⟨_, e, by rw [of_decide_eq_true h1], ?_⟩
    cases d with
    | none => rfl
    | some _ => cases h2
  · cases h
theorem g_kidx {K : PySem.W.Frag} {H : Hp} {Q : VK} {p : Addr} {σ : L2.St} {t : TA} (td : ∃ o, K.lookup p = some o ∧ o.cls = .type "tuple" ∧ o.dict = none) (q : t σ H fun xs H2 => rIdx K (.ref p) xs H2 Q) : kBM K "tuple" (rIdx K) t σ Q (.ref p) H :=
  ⟨.inr (.inl ⟨rfl, td⟩), q⟩
end AF
/-! steps of clauses -/
namespace AF
open PySem PySem.Spec PyProof.Rows L2
theorem hu100 {k : Nat} {A : Around} (r : Room k A) : A.units + 100 < cLine := by have := r.un; omega
section
variable {K : PySem.W.Frag} {i : Nat} {Wout : WX} {D : Ends} {c cls : Value} {ts : Addr → Value → Option Addr → TS} {r : List (Value × (Addr → Value → Option Addr → TS))} {d : Option Addr} {σ : L2.St} {H : Hp}
theorem g_wyes (e : PySem.W.exmOne K cls c = some true) (q : ∀ a, H a = none → ts a cls d (offI i D) (σ.set i (some (.ref a))) H) : wNam K i Wout D ((c, ts) :: r) cls d σ H := ⟨true, e, fun _ => q, fun z => nomatch z⟩
theorem g_wno (e : PySem.W.exmOne K cls c = some false) (q : wNam K i Wout D r cls d σ H) : wNam K i Wout D ((c, ts) :: r) cls d σ H := ⟨false, e, fun z => (nomatch z), fun _ => q⟩
end
theorem g_off {i : Nat} {nx : L2.St → Hp → Prop} {rt : VK} {bk ct : L2.St → Hp → Prop} {t : TS} {σ : L2.St} {H : Hp} (q : t ⟨fun σ H => nx (σ.set i none) H, rt, fun σ H => bk (σ.set i none) H, fun σ H => ct (σ.set i none) H⟩ σ H) : t (offI i ⟨nx, rt, bk, ct⟩) σ H := q
instance {σ σ' σ'' : L2.St} {i j : Nat} {v : V} [h : SetI σ i v σ'] [h2 : ClrI σ' j σ''] : ClrI (σ.set i (some v)) j σ'' := ⟨by rw [h.eq]; exact h2.eq⟩
theorem clr_goE {σ σ' : L2.St} {i : Nat} {H : Hp} {Q : VK} {A : TE} [h : ClrI σ i σ'] (q : A σ' H Q) : A (σ.set i none) H Q := by rw [h.eq]; exact q
theorem clr_go {σ σ' : L2.St} {i : Nat} {H : Hp} {A : L2.St → Hp → Prop} [h : ClrI σ i σ'] (q : A σ' H) : A (σ.set i none) H := by rw [h.eq]; exact q
/-- a caught error's class holds what we ask of it -/
def exB (K : PySem.W.Frag) (C : Addr) : Bool := He.eqO (PySem.W.findIn K (.ref C) "__getattribute__") (some (some (.builtin "BaseException.__getattribute__"))) && (He.eqO (PySem.W.findIn K (.ref C) "__getattr__") (some none) && (decide (PySem.W.subIn K (.ref C) (.type "BaseException") = some true) &&
  (PySem.W.hasDictIn K C && (He.eqO (PySem.W.findIn K (.ref C) "__class__") (some (some (.builtin "object.__class__"))) && (He.eqO (PySem.W.specialIn K (.builtin "object.__class__") "__get__") (some (some (.builtin "getset_descriptor.__get__"))) &&
  (decide (PySem.W.takesIn K (.builtin "object.__class__") = some true) && decide (PySem.W.mroIn K C (.type "object") = some true)))))))
theorem exB_ok {K : PySem.W.Frag} {C : Addr} (h : exB K C = true) : ExcC K C := by
  obtain ⟨h1, h⟩ := He.ba h
  obtain ⟨h2, h⟩ := He.ba h
  obtain ⟨h3, h⟩ := He.ba h
  obtain ⟨h4, h⟩ := He.ba h
  obtain ⟨h5, h⟩ := He.ba h
  obtain ⟨h6, h⟩ := He.ba h
  obtain ⟨h7, h8⟩ := He.ba h
  exact ⟨He.eqO_ok h1, He.eqO_ok h2, of_decide_eq_true h3, h4, He.eqO_ok h5, He.eqO_ok h6, of_decide_eq_true h7, of_decide_eq_true h8⟩
theorem xf_of {K : PySem.W.Frag} {C : Addr} (h : ExcC K C) : XfC K C := ⟨h.hg, h.hk, h.hs, h.hd⟩
theorem pe_xfD {X : Cx} {a C : Addr} {oe : Obj} {cls : Value} {d : Option Addr} {pn : List (Addr × Obj)} {e : Expr} {te : TE} {pos : Pos} {n : Str} (T : ExcC X.K C) (hno : PySem.W.findIn X.K (.ref C) n = some none) (hz : Zc cls d oe) (hf : ∃ vs, oe.data = .fields vs)
    (he : PE (X.suite a ((a, oe) :: pn)) e te) (hb : attributeBase e n X.env (eval e X.env) = eval e X.env := by rfl) : PE (X.suite a ((a, oe) :: pn)) (.Attribute e n pos) (tXf a cls d C n te) := pe_xf (xf_of T) hno hz hf he hb
end AF
/-! two names out of a pair; lists put together; is None -/
namespace AF
open PySem PySem.Spec PyProof.Rows L2
section
variable {K : PySem.W.Frag} {σ σ1 σ2 : L2.St} {H H0 : Hp} {M : Addr → Prop} {l : List Ent} {te : TE} {i j : Nat} {nx : L2.St → Hp → Prop} {rt : VK} {bk ct : L2.St → Hp → Prop} {a b : Addr} {u v : V} {Q : VK}
def kUnp (K : PySem.W.Frag) (i j : Nat) (σ : L2.St) (nx : L2.St → Hp → Prop) (x : V) (H : Hp) : Prop := gTup K 2 (gCons (gName i) (gCons (gName j) gNil)) x σ H nx
instance (priority := 900) : Step (tAsg te (gTup K 2 (gCons (gName i) (gCons (gName j) gNil))) ⟨nx, rt, bk, ct⟩ σ H) (te σ H (kUnp K i j σ nx)) := ⟨fun h => h⟩
theorem g_unp [h1 : SetI σ i u σ1] [h2 : SetI σ1 j v σ2] (h : H a = some (.tup [u, v])) (k : nx σ2 H) : kUnp K i j σ nx (.ref a) H := by
  refine ⟨a, [u, v], rfl, SqT.of h, rfl, u, [v], rfl, v, [], rfl, rfl, ?_⟩
  show nx ((σ.set i (some u)).set j (some v)) H
  rw [h1.eq, h2.eq]
  exact k
theorem g_catl {xs ys : List V} (S : Sh H0 M H l) (hx : On l a (.lst xs)) (hy : On l b (.lst ys)) (hn : Nat.ble (xs.length + ys.length) 1000 = true) (q : ∀ p H', H p = none → Sh H0 M H' ((p, .lst (xs ++ ys), true) :: l) → Q (.ref p) H') : rCat (.ref a) (.ref b) H Q :=
  ⟨a, b, xs, ys, rfl, rfl, S.has_ hx, S.has_ hy, line_of hn, fun p hp => q p _ hp (S.new hp)⟩
def rNotN : R2 := fun x y H Q => y = V.non ∧ Q (.bl (!decide (x = V.non))) H
theorem g_nn {x : V} {r : Bool} (e : (!decide (x = V.non)) = r) (q : Q (.bl r) H) : (fun x y H Q => y = V.non ∧ Q (V.bl (!decide (x = V.non))) H : R2) x .non H Q := ⟨rfl, by
  show Q (.bl (!decide (x = V.non))) H
  rw [e]; exact q⟩
end
theorem Sh.cut {H0 H : Hp} {M : Addr → Prop} {l l' : List Ent} (S : Sh H0 M H l) (s : List.Sublist l' l) : Sh H0 M H l' := ⟨S.fr, fun e he => S.has e (s.subset he), S.ap.sublist (s.map tag), fun e he => S.mu e (s.subset he)⟩
theorem g_inl {K : PySem.W.Frag} {H : Hp} {Q : VK} {p : Addr} {xs : List V} {x : V} {r : Bool} (h : H p = some (.lst xs)) (fx : flatV x = true) (fs : xs.all flatV = true) (e : inV x xs = r) (q : Q (.bl r) H) : rIn K false x (.ref p) H Q := ⟨p, xs, rfl, .inl (SqL.of h), fx, fs, by rw [e]; exact q⟩
/-- six statements, then the rest -/
theorem g_cut6 {t1 t2 t3 t4 t5 t6 u : TS} {nx : L2.St → Hp → Prop} {rt : VK} {bk ct : L2.St → Hp → Prop} {σ : L2.St} {H : Hp} (P : L2.St → Hp → Prop)
    (a : ∀ nx' : L2.St → Hp → Prop, (∀ σ H, P σ H → nx' σ H) → tSeq t1 (tSeq t2 (tSeq t3 (tSeq t4 (tSeq t5 t6)))) ⟨nx', rt, bk, ct⟩ σ H) (b : ∀ σ H, P σ H → u ⟨nx, rt, bk, ct⟩ σ H) :
    tSeq t1 (tSeq t2 (tSeq t3 (tSeq t4 (tSeq t5 (tSeq t6 u))))) ⟨nx, rt, bk, ct⟩ σ H := a (fun σ H => u ⟨nx, rt, bk, ct⟩ σ H) b
theorem shaped2 {z : Str} {b : Bool} (h : PyData.canLay0 (.str z) = true) : SeqAt.shaped (.list [.str z, .bool b]) = true := by
  have e1 : PyData.canLay0 (.list [.str z, .bool b]) = true := by
    show (PyData.canLay0 (.str z) && (true && true)) = true
    rw [h]; rfl
  show (PyData.canLay0 _ && decide (PyData.depth (.list [.str z, .bool b]) ≤ 64)) = true
  rw [e1, Bool.true_and]
  refine decide_eq_true ?_
  simp [PyData.depth, PyData.depthAll]
end AF
/-! lambdas without parameters as values: made, kept, handed to a def that calls them in a try *-/
namespace AF
open PySem PySem.Spec PyProof.Rows L2 LamX
/-- a lambda at f, its code at c' -/
def LamO (q : Str) (cells : List (Str × Addr)) (params : Arguments) (body : Expr) (scope : Scope) (c' f : Addr) : HO :=
  .ext fun h => ∃ pm ctv, h.get? f = some (PySem.W.kla_obj "<lambda>" (q ++ "<lambda>") params body scope (cloFrom cells scope.names []) pm c' ctv)
theorem lamO_ok {P : Program} {w : World} {H : Hp} {h : Heap} {q : Str} {cells : List (Str × Addr)} {params : Arguments} {body : Expr} {scope : Scope} {c' f : Addr} {pm ctv : Value}
    (e : h.get? f = some (PySem.W.kla_obj "<lambda>" (q ++ "<lambda>") params body scope (cloFrom cells scope.names []) pm c' ctv)) : ObjOk P w H h f (LamO q cells params body scope c' f) :=
  ⟨⟨pm, ctv, e⟩, ⟨_, e⟩, fun _ _ ⟨a, b, z⟩ k => ⟨a, b, k _ z⟩⟩
section
variable {X : Cx} {pins : List (Addr × Obj)} {σ : L2.St} {H : Hp} {s : Shared}
/-- what stands behind the making of a lambda -/
structure LamMade (T : List (Addr × Str)) (q : Str) (cells : List (Str × Addr)) (params : Arguments) (body : Expr) (scope : Scope) (H H1 : Hp) (f c' : Addr) : Prop where
  ext : ExtN H H1
  tabs : Tabs T H1
  lam : H1 f = some (LamO q cells params body scope c' f)
  code : H1 c' = some (CodeO c' (q ++ "<lambda>"))
  new : H f = none
theorem lamO_ne {q : Str} {cells : List (Str × Addr)} {params : Arguments} {body : Expr} {scope : Scope} {c' f : Addr} (ps : Array Value) : LamO q cells params body scope c' f ≠ .tbl ps := fun z => by
  unfold LamO at z; cases z
theorem lam_hold {T : List (Addr × Str)} {c P : Addr} {params : Arguments} {body : Expr} {scope : Scope} {pos : Pos} {E : Value → Shared → Prop} {Q : Value → Shared → Prop} (I : Inv X pins σ H s) (TB : TabB X.base X.mg c P) (hcode : X.env.code = .ref c)
    (hm : (P, X.env.qual ++ "<lambda>") ∈ T) (hu : ∀ p ∈ T, p.1 = P → p.2 = X.env.qual ++ "<lambda>") (hT : Tabs T H) (hdef : defaultsOf params X.env = ([], [])) (hfree : ∀ y ∈ scope.names, y.2 = .free → ∃ c, X.env.cells.lookup y.1 = some c)
    (k : ∀ f c' H1 s', Inv X pins σ H1 s' → LamMade T X.env.qual X.env.cells params body scope H H1 f c' → Q (.ref f) s') : wpAny (model X.prog X.w) X.A (eval (.Lambda params body scope pos) X.env) Q E s := by
  obtain ⟨ps, tp, tr, tc⟩ := hT _ hm
  refine PySem.W.kla_eval hdef ?_
  have objP : s.heap.get? P = some { cls := .none, data := .fields ps } := I.hok P _ tp
  have blt : s.heap.BuiltinsAt X.mg P := TB.bm.keeps I.bk
  cases among : codeAmong pos ps.toList with
  | some cv =>
    -- the table has its code
    obtain ⟨c', rfl, hco⟩ := tc pos cv among
    refine PySem.W.kla_makeFunctionHit (mg := X.mg) (c := c) (P := P) (ps := ps) (closure_ok hfree) I.ok.glob (I.mod.glob.keeps I.bk) hcode (TB.code.keeps I.bk) objP tr among blt ?_
    intro ctv h' tk grow size
    have I1 : Inv X pins σ H { s with heap := h', toks := tk } := I.kept grow
    have fr : H h'.objs.size = none := I1.hok.fresh (Nat.le_refl _)
    have here : ∀ o, H h'.objs.size ≠ some o := fun o z => by rw [fr] at z; cases z
    refine k h'.objs.size c' _ _ (I1.laid (t' := tk) (a := h'.objs.size) (o := LamO X.env.qual X.env.cells params body scope c' h'.objs.size) (fun b o e => Heap.get?_push_of_some _ e) (Nat.le_refl _) (lamO_ok (Heap.get?_push_size _ rfl))) ?_
    have ex : ∀ b o, H b = some o → upd H h'.objs.size (LamO X.env.qual X.env.cells params body scope c' h'.objs.size) b = some o := fun b o e => by rw [upd_ne (ne_of_none e fr)]; exact e
    exact ⟨fun b o e _ => ex b o e, hT.ext ex, upd_same, ex _ _ hco, fr⟩
  | none =>
    refine PySem.W.kla_makeFunction (mg := X.mg) (c := c) (P := P) (ps := ps) (closure_ok hfree) I.ok.glob (I.mod.glob.keeps I.bk) hcode (TB.code.keeps I.bk) objP tr among TB.gP blt ?_
    rintro c' ctv h' tk grow low high ⟨c2, oc, us, t, e2, e3, e4, e5⟩ now
    cases e2
    have nC : H c' = none := I.hok.fresh low
    have nF : H h'.objs.size = none := I.hok.fresh (Nat.le_trans low (Nat.le_of_lt high))
    have ncP : c' ≠ P := fun z => by rw [z, tp] at nC; cases nC
    have nfP : h'.objs.size ≠ P := fun z => by rw [z, tp] at nF; cases nF
    have nfc : h'.objs.size ≠ c' := Nat.ne_of_gt high
    have I1 := inv_table (t' := tk) (q := X.env.qual ++ "<lambda>") (more := #[rawInt pos.line, rawInt pos.col, .ref c']) (h' := h') I tp (fun b o n e => grow b o n e) now low ⟨oc, us, t, e3, e4, e5⟩
    have fr : upd (upd H P (.tbl (ps ++ #[rawInt pos.line, rawInt pos.col, .ref c']))) c' (CodeO c' (X.env.qual ++ "<lambda>")) h'.objs.size = none := by rw [upd_ne nfc, upd_ne nfP]; exact nF
    refine k h'.objs.size c' _ _ (I1.laid (t' := tk) (a := h'.objs.size) (o := LamO X.env.qual X.env.cells params body scope c' h'.objs.size) (fun b o e => Heap.get?_push_of_some _ e) (Nat.le_refl _) (lamO_ok (Heap.get?_push_size _ rfl))) ?_
    have ex : ExtN H (upd (upd (upd H P (.tbl (ps ++ #[rawInt pos.line, rawInt pos.col, .ref c']))) c' (CodeO c' (X.env.qual ++ "<lambda>"))) h'.objs.size (LamO X.env.qual X.env.cells params body scope c' h'.objs.size)) := fun b o e n => by
      have nb : b ≠ P := fun z => by rw [z, tp] at e; exact n ps (Option.some.inj e).symm
      rw [upd_ne (ne_of_none e nF), upd_ne (ne_of_none e nC), upd_ne nb]; exact e
    refine ⟨ex, fun p hp => ?_, upd_same, by rw [upd_ne nfc.symm, upd_same], nF⟩
    by_cases hb : p.1 = P
    · rw [hu p hp hb, hb]
      have el : (ps ++ #[rawInt pos.line, rawInt pos.col, .ref c']).toList = ps.toList ++ [rawInt pos.line, rawInt pos.col, .ref c'] := by simp
      refine ⟨_, by rw [upd_ne nfP.symm, upd_ne ncP.symm, upd_same], by rw [el]; exact PySem.TriplesOk_snoc _ _ _ _ tr, fun p' cv hcv => ?_⟩
      rw [el] at hcv
      rcases among_app _ tr hcv with z | z
      · obtain ⟨c0, y1, y2⟩ := tc p' cv z
        exact ⟨c0, y1, ex _ _ y2 codeO_ne⟩
      · exact ⟨c', z, by rw [upd_ne nfc.symm, upd_same]⟩
    · obtain ⟨qs, y1, y2, y3⟩ := hT p hp
      refine ⟨qs, by rw [upd_ne (ne_of_none y1 nF), upd_ne (ne_of_none y1 nC), upd_ne hb]; exact y1, y2, fun p' cv hcv => ?_⟩
      obtain ⟨c0, z1, z2⟩ := y3 p' cv hcv
      exact ⟨c0, z1, ex _ _ z2 codeO_ne⟩
end
/-- lambda: body -/
def tLamV (T : List (Addr × Str)) (q : Str) (cells : List (Str × Addr)) (params : Arguments) (body : Expr) (scope : Scope) : TE := fun _ H Q => Tabs T H ∧ ∀ f c' H1, LamMade T q cells params body scope H H1 f c' → Q (.ref f) H1
theorem pe_lamV {X : Cx} {T : List (Addr × Str)} {c P : Addr} {params : Arguments} {body : Expr} {scope : Scope} {pos : Pos} (TB : TabB X.base X.mg c P) (hcode : X.env.code = .ref c) (ok : ∀ {pins σ H s}, Inv X pins σ H s → X.Ok) (L : LamS X.env.scope scope)
    (hm : (P, X.env.qual ++ "<lambda>") ∈ T) (hu : ∀ p ∈ T, p.1 = P → p.2 = X.env.qual ++ "<lambda>") (hdef : defaultsOf params X.env = ([], [])) : PE X (.Lambda params body scope pos) (tLamV T X.env.qual X.env.cells params body scope) := by
  constructor
  intro pins s σ H Q I h
  exact lam_hold I TB hcode hm hu h.1 hdef (L.has (ok I)) fun f c' H1 s' I1 md => ⟨.ref f, H1, I1, rfl, h.2 f c' H1 md⟩
/-! the lambda called by the def that got it; what it raises is wished for at that def's slots -/
theorem pe_actW {X : Cx} {pins : List (Addr × Obj)} {σ : L2.St} {H : Hp} {s : Shared} {CXg : CXT} {Eg : XK} {Ng : List Str} {qg : Str} {sg : Scope} {g f c' : Addr} {cdg : Value} {params : Arguments} {body : Expr} {scope : Scope} {k i : Nat} {a : Str} {pn : List (Addr × Obj)} {xe : Value → Shared → Prop} {W : WX} {t : XK → TE} {p1 p2 : Pos}
    (I : Inv X pins σ H s) (L : LamS X.env.scope scope)
    (hbind : ∀ (q : Str) (cl : List (Str × Addr)) (pm cv ctv : Value), bindArgs (PySem.W.kla_fn "<lambda>" q params body scope cl pm cv ctv) ⟨[], []⟩ = pure [])
    (tk : Takes ((cxOf CXg X.prog X.w X.K X.mg X.base Ng qg sg g cdg X.A X.stack s H Eg).tr pn xe) W) (hr : Room (k + 1) (X.A.deeper (envOfC qg sg s.heap.objs.size g cdg)))
    (hbody : ∀ (A : Around) (outer : List Env) (s : Shared) (H : Hp) (E : XK), Room k (A.deeper (lamEnv X scope s.heap.objs.size f c')) → PE (lamCx X A outer s H E scope f c') body (t E))
    (hN : Ng[i]? = some a) (hv : Vis sg a) (hd : (a == ("__debug__" : Str)) = false := by decide) (hcd : (a == ("__classdict__" : Str)) = false := by decide) :
    PE ((cxOf CXg X.prog X.w X.K X.mg X.base Ng qg sg g cdg X.A X.stack s H Eg).tr pn xe) (.Call (.Name a p1) [] [] p2)
      (fun σZ HZ Q => σZ[i]? = some (some (.ref f)) ∧ HZ f = some (LamO X.env.qual X.env.cells params body scope c' f) ∧ HZ c' = some (CodeO c' (X.env.qual ++ "<lambda>")) ∧ t (fun cls d H' => W cls d σZ H') σ HZ Q) := by
  constructor
  rintro pinsZ sZ σZ HZ Q IZ ⟨hs, hf, hc, ht⟩
  refine wpAny_Call_Name_kw (thn ((pe_var (pos := p1) (i := i) hN hv hd hcd).run pinsZ sZ σZ HZ (fun v H1 => v = .ref f ∧ H1 = HZ) IZ ⟨.ref f, hs, rfl, rfl⟩) ?_)
  rintro u s1 ⟨v, H1, I1, r1, rfl, rfl⟩
  cases (show u = Value.ref f from r1)
  obtain ⟨pm, ctv, of1⟩ := (I1.hok f _ hf).1
  obtain ⟨oc, us, tt, oc1, oc2, oc3⟩ := (I1.hok c' _ hc).1
  refine PySem.W.callWith_F0 ⟨_, _, _, _, of1⟩ ?_
  refine wpAny_call (codeAny_mono (R := CR (L2.CX X.prog X.w) (envOfC qg sg s.heap.objs.size g cdg :: X.stack) X.prog X.w H1 s1 Q (fun cls d H' => W cls d σZ H')) ?_ ?_)
  · refine PySem.W.kla_callFunE hr.depth of1 rfl L.co L.gen rfl ⟨c', oc, us, tt, rfl, oc1, oc2, oc3⟩ ?_
    rw [show (([] : List Value) ++ []) = [] from rfl, hbind]
    refine wpAny_pure (wpAny_newFunctionEnv (fun y hy => (L.own y hy).2) (fun y hy => (nomatch hy)) (fun h₁ hns hsb => ⟨I1.nolimit.fresh _ hsb, ?_⟩) L.kind)
    have kp : ∀ b o, s1.heap.get? b = some o → h₁.get? b = some o := fun b o e => hsb.extBut b o (Nat.ne_of_lt (Heap.lt_size e)) (Heap.get?_push_of_some _ e)
    have J : Inv (lamCx X (X.A.deeper (envOfC qg sg s.heap.objs.size g cdg)) (envOfC qg sg s.heap.objs.size g cdg :: X.stack) s1 H1 (fun cls d H' => W cls d σZ H') scope f c') [] σ H1 { s1 with heap := h₁, toks := s1.toks + ([] : List (Str × Value)).length } :=
      lam_start2 I L I1.env0 hr.hd (show Un (frs X.stack) [] H H1 s.heap s1.heap from I1.base) hns kp
    refine PySem.W.kla_codeExpr (wpAny_mono ((hbody _ _ s1 H1 _ (hr.deeper _)).run [] _ _ H1 Q J ht) ?_ fun _ _ z => z)
    rintro v s' ⟨w', H', J', rv, q⟩
    exact ⟨w', H', J'.os, J'.bare, J'.base, J'.hok, rv, q⟩
  · rintro (er | fl) s' z
    · exact tk er s' (XE.of_call I1 (fun _ _ _ h => h) z)
    · cases fl <;> first | exact I1.after z | exact False.elim z
/-! a def that calls what it got in a try: TT tells what it makes of it -/
/-- one lambda's text, and its reading in the maker's slots -/
structure LamD where
  params : Arguments
  body : Expr
  scope : Scope
  t : XK → TE
def ActOk (X : Cx) (Ng : List Str) (x : Str) (sg : Scope) (g : Addr) (cdg : Value) (bg : List Stmt) (a : Str) (TT : (XK → Hp → VK → Prop) → Hp → VK → Prop) : Prop :=
  ∀ (f : Addr) (s : Shared) (H : Hp) (Q : VK) (Pf : Hp → Prop) (tl : XK → Hp → VK → Prop), (∀ H H', Ch [] H H' → Pf H → Pf H') →
    (∀ (W : WX) (pn : List (Addr × Obj)) (xe : Value → Shared → Prop) (p1 p2 : Pos), Takes ((cxOf C8.CX0 X.prog X.w X.K X.mg X.base Ng x sg g cdg X.A X.stack s H C8.E0).tr pn xe) W →
      PE ((cxOf C8.CX0 X.prog X.w X.K X.mg X.base Ng x sg g cdg X.A X.stack s H C8.E0).tr pn xe) (.Call (.Name a p1) [] [] p2) (fun σZ HZ Q => σZ[0]? = some (some (.ref f)) ∧ Pf HZ ∧ tl (fun cls d H' => W cls d σZ H') HZ Q)) →
    Pf H → TT tl H Q → ∃ t, PSs (cxOf C8.CX0 X.prog X.w X.K X.mg X.base Ng x sg g cdg X.A X.stack s H C8.E0) bg t ∧ t { nx := fun _ H' => Q .non H', rt := Q } (L2.start Ng [.ref f]) H
def tAct (q : Str) (cells : List (Str × Addr)) (ds : List LamD) (TT : (XK → Hp → VK → Prop) → Hp → VK → Prop) (ta : TE) : TE := fun σ H Q => ta σ H fun v H1 =>
  ∃ (f c' : Addr) (d : LamD), d ∈ ds ∧ v = .ref f ∧ H1 f = some (LamO q cells d.params d.body d.scope c' f) ∧ H1 c' = some (CodeO c' (q ++ "<lambda>")) ∧ TT (fun E H' Q' => d.t E σ H' Q') H1 Q
theorem pe_actG {X : Cx} {TT : (XK → Hp → VK → Prop) → Hp → VK → Prop} {x a : Str} {g : Addr} {k : Nat} {pg : Arguments} {bg : List Stmt} {sg : Scope} {dV kV doc pm cdv ct oc : Value} {an od : Option Addr} {osl : Array (Option Value)} {Ng : List Str} {ds : List LamD} {e : Expr} {ta : TE} {p pos : Pos}
    (hg : Gl X x) (hm : X.mg x = some (.ref g)) (hk : PySem.W.keepIn X.K (.ref g) = true) (lk : X.K.lookup g = some ⟨oc, od, .func (PySem.W.fnOf x x pg bg sg dV kV doc pm an cdv ct), osl⟩) (hcg : PySem.W.codeIn X.K cdv x = true)
    (hb : L2.Binds X.K (PySem.W.fnOf x x pg bg sg dV kV doc pm an cdv ct) [a] []) (Sg : FnScope Ng [a] sg) (hNg : Ng[0]? = some a) (hva : Vis sg a) (hG : ActOk X Ng x sg g cdv bg a TT) (hr : Room (k + 2) X.A)
    (hds : ∀ d ∈ ds, LamS X.env.scope d.scope ∧ (∀ (q : Str) (cl : List (Str × Addr)) (pm cv ctv : Value), bindArgs (PySem.W.kla_fn "<lambda>" q d.params d.body d.scope cl pm cv ctv) ⟨[], []⟩ = pure []) ∧
      ∀ (A : Around) (outer : List Env) (s : Shared) (H : Hp) (E : XK) (f c' : Addr), Room k (A.deeper (lamEnv X d.scope s.heap.objs.size f c')) → PE (lamCx X A outer s H E d.scope f c') d.body (d.t E))
    (he : PE X e ta) (hst : starEach [e] X.env = (false, eval e X.env) :: starEach [] X.env := by rfl) (hpl : (backTo pos (starEach [] X.env)).any (·.1) = false := by rfl)
    (hdb : (x == ("__debug__" : Str)) = false := by decide) (hd : (a == ("__debug__" : Str)) = false := by decide) (hcd : (a == ("__classdict__" : Str)) = false := by decide) : PE X (.Call (.Name x p) [e] [] pos) (tAct X.env.qual X.env.cells ds TT ta) := by
  constructor
  intro pins s σ H Q I h
  refine wpAny_Call_Name_kw (ld_glob I hg hm ?_ hdb)
  refine PySem.W.callWith_K (h₀ := X.base) I.ok.mod.kin hk ?_ hst hpl
  rw [hst]
  show wpAny _ _ (spliced ((false, eval e X.env) :: backTo pos (starEach [] X.env))) _ _ s
  refine Calls.spliced_cons (thn (he.run pins s σ H _ I h) ?_)
  rintro u s1 ⟨v, H1, I1, r1, f, c', d, hd1, rfl, lf, lc, tt⟩
  cases (show u = Value.ref f from r1)
  obtain ⟨L, bn, bd⟩ := hds d hd1
  refine Calls.spliced_nil ⟨I1.kIn, ?_⟩
  refine wpAny_call (codeAny_mono (R := CR C8.CX0 X.stack X.prog X.w H1 s1 Q C8.E0) ?_ ?_)
  · refine run_ofS (N := Ng) (ps := [a]) (us := [.ref f]) (vs := [.ref f]) lk hcg Sg hr I1.env0 (hb s1 [.ref f] I1.kIn rfl) (.cons rfl .nil) rfl fun hr' => ?_
    refine hG f s1 H1 Q (fun HZ => HZ f = some (LamO X.env.qual X.env.cells d.params d.body d.scope c' f) ∧ HZ c' = some (CodeO c' (X.env.qual ++ "<lambda>"))) (fun E H' Q' => d.t E σ H' Q') (fun _ _ ch z => ⟨ch _ _ z.1 List.not_mem_nil, ch _ _ z.2 List.not_mem_nil⟩) ?_ ⟨lf, lc⟩ tt
    intro W pn xe p1 p2 tk
    have z := pe_actW (i := 0) (t := d.t) (p1 := p1) (p2 := p2) I1 L bn tk hr' (fun A outer s H E hr2 => bd A outer s H E f c' hr2) hNg hva hd hcd
    exact ⟨fun pins s σ H Q I ⟨h1, ⟨h2, h3⟩, h4⟩ => z.run pins s σ H Q I ⟨h1, h2, h3, h4⟩⟩
  · rintro (er | fl) s' z
    · exact (show False from z).elim
    · cases fl <;> first | exact I1.after z | exact False.elim z
end AF
/-! lambdas beside what stands; the table of the law's code looked at *-/
namespace AF
open PySem PySem.Spec PyProof.Rows L2 LamX
/-- what may be changed at all -/
def softO : HO → Bool
  | .lst _ => true
  | .tup _ => true
  | .dK _ => true
  | .ins _ _ _ => true
  | .own _ => true
  | .xd _ => true
  | _ => false
def tblO : HO → Bool
  | .tbl _ => true
  | _ => false
def Soft (H : Hp) (M : Addr → Prop) : Prop := ∀ b o, H b = some o → M b → softO o = true
theorem soft0 {H : Hp} : Soft H (fun _ => False) := fun _ _ _ h => h.elim
def Mu (l : List Ent) (b : Addr) : Prop := ∃ e ∈ l, e.2.2 = true ∧ e.1 = b
def softL (l : List Ent) : Bool := l.all fun e => (!e.2.2 || softO e.2.1) && !tblO e.2.1
section
variable {H0 H H1 : Hp} {M : Addr → Prop} {l : List Ent} {T : List (Addr × Str)} {K : PySem.W.Frag} {a : Addr} {xs : List V}
theorem Tabs.along (t : Tabs T H0) (S : Sh H0 M H l) (sf : Soft H0 M) : Tabs T H := fun p hp => by
  obtain ⟨ps, h1, h2, h3⟩ := t p hp
  refine ⟨ps, S.fr _ _ h1 fun z => ?_, h2, fun pos cv hc => ?_⟩
  · have := sf _ _ h1 z; cases this
  · obtain ⟨c, e1, e2⟩ := h3 pos cv hc
    refine ⟨c, e1, S.fr _ _ e2 fun z => ?_⟩
    have := sf _ _ e2 z
    unfold CodeO at this; cases this
theorem SqF.along (h : SqF K H0 a xs) (S : Sh H0 M H l) (sf : Soft H0 M) : SqF K H a xs := by
  rcases h with ⟨o, e⟩ | h
  · exact .inl ⟨o, S.fr _ _ e fun z => by have := sf _ _ e z; cases this⟩
  · exact .inr h
theorem SqF.extN (h : SqF K H a xs) (e : ExtN H H1) : SqF K H1 a xs := by
  rcases h with ⟨o, z⟩ | h
  · exact .inl ⟨o, e _ _ z fun ps y => by cases y⟩
  · exact .inr h
/-- begun anew -/
theorem Sh.again (S : Sh H0 M H l) : Sh H (Mu l) H l := ⟨fun _ _ h _ => h, S.has, S.ap, fun e he hm => .inl ⟨e, he, hm, rfl⟩⟩
theorem soft_again (S : Sh H0 M H l) (hl : softL l = true) : Soft H (Mu l) := fun b o hb ⟨e, he, hm, hb'⟩ => by
  have h1 := List.all_eq_true.mp hl e he
  have h2 := S.has e he
  rw [hb', hb] at h2
  cases h2
  rw [hm] at h1
  cases q : softO e.2.1 with
  | true => rfl
  | false => rw [q] at h1; cases h1
variable {q : Str} {cells : List (Str × Addr)} {params : Arguments} {body : Expr} {scope : Scope} {f c' : Addr}
theorem Sh.lam (S : Sh H0 M H l) (hl : softL l = true) (md : LamMade T q cells params body scope H H1 f c') : Sh H1 (Mu l) H1 ((f, LamO q cells params body scope c' f, false) :: (c', CodeO c' (q ++ "<lambda>"), false) :: l) := by
  have has : ∀ e, e ∈ l → H1 e.1 = some e.2.1 := fun e he => md.ext _ _ (S.has e he) fun ps z => by
    have h1 := List.all_eq_true.mp hl e he
    rw [z] at h1
    cases h2 : e.2.2 <;> rw [h2] at h1 <;> cases h1
  have soft : ∀ e, e ∈ l → e.2.2 = true → softO e.2.1 = true := fun e he hm => by
    have h1 := (Bool.and_eq_true_iff.mp (List.all_eq_true.mp hl e he)).1
    rw [hm] at h1
    cases q : softO e.2.1 with
    | true => rfl
    | false => rw [q] at h1; cases h1
  have S1 : Sh H1 (Mu l) H1 l := ⟨fun _ _ h _ => h, has, S.ap, fun e he hm => .inl ⟨e, he, hm, rfl⟩⟩
  have S2 : Sh H1 (Mu l) H1 ((c', CodeO c' (q ++ "<lambda>"), false) :: l) := S1.know md.code fun e he hm z => by
    have h1 := has e he
    rw [← z, md.code] at h1
    have h2 := soft e he hm
    rw [← Option.some.inj h1] at h2
    unfold CodeO at h2; cases h2
  refine S2.know md.lam fun e he hm z => ?_
  rcases List.mem_cons.mp he with h | h
  · rw [h] at hm; cases hm
  · have h1 := S.has e h
    rw [← z, md.new] at h1; cases h1
theorem Soft.lam (S : Sh H0 M H l) (hl : softL l = true) (md : LamMade T q cells params body scope H H1 f c') : Soft H1 (Mu l) := fun b o hb ⟨e, he, hm, hb'⟩ => by
  have S1 := S.lam hl md
  have h2 := S1.has e (List.mem_cons_of_mem _ (List.mem_cons_of_mem _ he))
  rw [hb', hb] at h2
  cases h2
  have h1 := (Bool.and_eq_true_iff.mp (List.all_eq_true.mp hl e he)).1
  rw [hm] at h1
  cases q : softO e.2.1 with
  | true => rfl
  | false => rw [q] at h1; cases h1
/-- lambda: body, all told anew behind it -/
theorem g_lam {σ : L2.St} {Q : VK} (S : Sh H0 M H l) (sf : Soft H0 M) (t : Tabs T H0) (hF : SqF K H0 a xs) (hl : softL l = true)
    (k : ∀ f c' H1, Sh H1 (Mu l) H1 ((f, LamO q cells params body scope c' f, false) :: (c', CodeO c' (q ++ "<lambda>"), false) :: l) → Soft H1 (Mu l) → Tabs T H1 → SqF K H1 a xs → Q (.ref f) H1) : tLamV T q cells params body scope σ H Q :=
  ⟨Tabs.along t S sf, fun f c' H1 md => k f c' H1 (S.lam hl md) (Soft.lam S hl md) md.tabs ((hF.along S sf).extN md.ext)⟩
end
def kAct (q : Str) (cells : List (Str × Addr)) (ds : List LamD) (TT : (XK → Hp → VK → Prop) → Hp → VK → Prop) (σ : L2.St) (Q : VK) (v : V) (H1 : Hp) : Prop :=
  ∃ (f c' : Addr) (d : LamD), d ∈ ds ∧ v = .ref f ∧ H1 f = some (LamO q cells d.params d.body d.scope c' f) ∧ H1 c' = some (CodeO c' (q ++ "<lambda>")) ∧ TT (fun E H' Q' => d.t E σ H' Q') H1 Q
instance {q : Str} {cells : List (Str × Addr)} {ds : List LamD} {TT : (XK → Hp → VK → Prop) → Hp → VK → Prop} {ta : TE} {σ : L2.St} {H : Hp} {Q : VK} : Step (tAct q cells ds TT ta σ H Q) (ta σ H (kAct q cells ds TT σ Q)) := ⟨fun h => h⟩
/-! the head, its table looked at -/
def lawC (K : PySem.W.Frag) (x : Str) : Addr := match cdOf K (He.ga K x) with
  | .ref c => c
  | _ => 0
def lawP (K : PySem.W.Frag) (x : Str) : Addr := match K.lookup (lawC K x) with
  | some ⟨_, _, .fields vs, _⟩ => (match (vs[11]? : Option Value) with
    | some (.ref p) => p
    | _ => 0)
  | _ => 0
def isTab : Option Obj → Bool
  | some ⟨.none, .none, .fields ⟨[]⟩, ⟨[]⟩⟩ => true
  | _ => false
theorem isTab_ok {o : Option Obj} (h : isTab o = true) : o = some oTab := by
  unfold isTab at h
  split at h
  · rfl
  · cases h
def lawB (K : PySem.W.Frag) (x : Str) : Bool := PySem.W.codeHdIn K (lawC K x) (lawP K x) && ((K.lookup (lawP K x)).isNone && (match cdOf K (He.ga K x) with | .ref _ => true | _ => false))
section
open He
open PySem.W (Frag OpenRow)
def lookTR (n : Nat) (fs : Frag → List Bool) (ds : List DA) (ts : List Tab) (g : Addr → Option Obj) : SeenT := lookT fs ds ts (frG g (PySem.cStatics :: asP g n [mainGlobals] [mainGlobals]))
def hookR (n : Nat) (fs : Frag → List Bool) (ds : List DA) (ts : List Tab) : PySem.W.Hook where
  α := SeenT
  obs := fun s => lookTR n fs ds ts s.heap.get?
  val := fun w => lookTW ds ts w
  says := fun w h => ∃ K : Frag, K.In h ∧ TellsT fs ds ts w K
  of := fun _ _ e => ⟨_, frG_in, e⟩
  keeps := fun _ _ _ ⟨K, hK, c⟩ k => ⟨K, Frag.In.keeps hK k, c⟩
theorem lookTR_eq {n : Nat} {fs : Frag → List Bool} {ds : List DA} {ts : List Tab} {g : Addr → Option Obj} {s : Shared} (h : ∀ a, g a = s.heap.get? a) : lookTR n fs ds ts g = (hookR n fs ds ts).obs s := by
  have e : g = s.heap.get? := funext h
  rw [e]
  rfl
/-- .. and the law's table is empty -/
def lookTL (n : Nat) (x : Str) (fs : Frag → List Bool) (ds : List DA) (ts : List Tab) (g : Addr → Option Obj) : SeenT × Bool :=
  (lookTR n fs ds ts g, (fun K : Frag => lawB K x && isTab (g (lawP K x))) (frG g (PySem.cStatics :: asP g n [mainGlobals] [mainGlobals])))
def hookL (n : Nat) (x : Str) (fs : Frag → List Bool) (ds : List DA) (ts : List Tab) : PySem.W.Hook where
  α := SeenT × Bool
  obs := fun s => lookTL n x fs ds ts s.heap.get?
  val := fun w => (lookTW ds ts w, true)
  says := fun w h => ∃ K : Frag, K.In h ∧ TellsT fs ds ts w K ∧ lawB K x = true ∧ h.get? (lawP K x) = some oTab
  of := fun _ _ e => by
    obtain ⟨e1, e2⟩ := Prod.mk.inj e
    obtain ⟨e3, e4⟩ := Bool.and_eq_true_iff.mp e2
    exact ⟨_, frG_in, e1, e3, isTab_ok e4⟩
  keeps := fun _ _ _ ⟨K, hK, c, b, t⟩ k => ⟨K, Frag.In.keeps hK k, c, b, k _ _ t⟩
theorem lookTL_eq {n : Nat} {x : Str} {fs : Frag → List Bool} {ds : List DA} {ts : List Tab} {g : Addr → Option Obj} {s : Shared} (h : ∀ a, g a = s.heap.get? a) : lookTL n x fs ds ts g = (hookL n x fs ds ts).obs s := by
  have e : g = s.heap.get? := funext h
  rw [e]
  rfl
end
theorem lawB_ok {K : PySem.W.Frag} {x : Str} (h : lawB K x = true) : PySem.W.codeHdIn K (lawC K x) (lawP K x) = true ∧ K.lookup (lawP K x) = none ∧ cdOf K (He.ga K x) = .ref (lawC K x) := by
  obtain ⟨h1, h⟩ := Bool.and_eq_true_iff.mp h
  obtain ⟨h2, h3⟩ := Bool.and_eq_true_iff.mp h
  refine ⟨h1, Option.isNone_iff_eq_none.mp h2, ?_⟩
  unfold lawC
  split at h3
  · rename_i c e
    rw [e]
  · cases h3
end AF
/-! calls in lambdas that raise: a def that keeps the error's value by repr -/
namespace AF
open PySem PySem.Spec PyProof.Rows L2 LamX
/-- what a call is to raise: one of the classes, with its value -/
def Wish (cs : List (Addr × Str)) (Q : VK) : XK := fun cls d H' => ∃ (C dd : Addr) (v : V) (z kw : Str), cls = .ref C ∧ d = some dd ∧ H' dd = some (.xd [("value", v)]) ∧ RepO H' v z ∧ (C, kw) ∈ cs ∧
  ∀ p H'', H' p = none → Ch [] H' H'' → H'' p = some (.lst [.str kw, .str z, .bl true]) → Q (.ref p) H''
def TTr (cs : List (Addr × Str)) : (XK → Hp → VK → Prop) → Hp → VK → Prop := fun tl H Q => ∀ p H1 (E : XK) (Q' : VK), H p = none → Ch [] H H1 → H1 p = some (.lst []) → (∀ cls d H', Wish cs Q cls d H' → E cls d H') → tl E H1 Q'
/-- all told goes along with a longer heap, tables aside -/
theorem Sh.extN {H0 H H1 : Hp} {M : Addr → Prop} {l : List Ent} (S : Sh H0 M H l) (hl : softL l = true) (e : ExtN H H1) : Sh H1 (Mu l) H1 l := by
  refine ⟨fun _ _ h _ => h, fun e1 he => e _ _ (S.has e1 he) fun ps z => ?_, S.ap, fun e1 he hm => .inl ⟨e1, he, hm, rfl⟩⟩
  have h1 := (Bool.and_eq_true_iff.mp (List.all_eq_true.mp hl e1 he)).2
  rw [z] at h1
  cases h1
theorem soft_extN {H0 H H1 : Hp} {M : Addr → Prop} {l : List Ent} (S : Sh H0 M H l) (hl : softL l = true) (e : ExtN H H1) : Soft H1 (Mu l) := soft_again (S.extN hl e) hl
end AF
/-! a def of the program's called with a lambda *-/
namespace AF
open PySem PySem.Spec PyProof.Rows L2 LamX
theorem pe_act1 {X : Cx} {TT : (XK → Hp → VK → Prop) → Hp → VK → Prop} {x a : Str} {g : Addr} {k : Nat} {pg : Arguments} {bg : List Stmt} {sg : Scope} {fd : FuncData} {Ng : List Str} {params : Arguments} {body : Expr} {scope : Scope} {t : XK → TE} {ta : TE} {p pos lpos : Pos}
    (F : FunD X.K x x pg bg sg [] [] g fd) (b : Binds X.K fd [a] []) (Sg : FnScope Ng [a] sg) (hNg : Ng[0]? = some a) (hva : Vis sg a) (hG : ∀ cdg, ActOk X Ng x sg g cdg bg a TT) (hr : Room (k + 2) X.A) (hg : Gl X x) (hm : X.mg x = some (.ref g))
    (L : LamS X.env.scope scope) (hbind : ∀ (q : Str) (cl : List (Str × Addr)) (pm cv ctv : Value), bindArgs (PySem.W.kla_fn "<lambda>" q params body scope cl pm cv ctv) ⟨[], []⟩ = pure [])
    (hbody : ∀ (A : Around) (outer : List Env) (s : Shared) (H : Hp) (E : XK) (f c' : Addr), Room k (A.deeper (lamEnv X scope s.heap.objs.size f c')) → PE (lamCx X A outer s H E scope f c') body (t E))
    (he : PE X (.Lambda params body scope lpos) ta)
    (hdb : (x == ("__debug__" : Str)) = false := by decide) (hd : (a == ("__debug__" : Str)) = false := by decide) (hcd : (a == ("__classdict__" : Str)) = false := by decide) :
    PE X (.Call (.Name x p) [.Lambda params body scope lpos] [] pos) (tAct X.env.qual X.env.cells [⟨params, body, scope, t⟩] TT ta) := by
  obtain ⟨oc, od, dV, kV, doc, pm, an, cdv, ct, osl, rfl, lk, hcd', _, _⟩ := F.ex
  refine pe_actG hg hm F.kp lk hcd' b Sg hNg hva (hG cdv) hr (fun d hd' => ?_) he (by rfl) (by rfl) hdb hd hcd
  rw [List.mem_singleton] at hd'
  subst hd'
  exact ⟨L, hbind, fun A outer s H E f c' hr2 => hbody A outer s H E f c' hr2⟩
/-- the tables of the defs that make lambdas -/
def lamT (K : PySem.W.Frag) (xs : List Str) : List (Addr × Str) := xs.map fun x => (lawP K x, (x ++ ".<locals>.") ++ "<lambda>")
def lamB (K : PySem.W.Frag) (xs : List Str) : Bool := decide ((xs.map (lawP K)).Nodup)
theorem lamT_u {K : PySem.W.Frag} : ∀ {xs : List Str}, (xs.map (lawP K)).Nodup → ∀ {x : Str}, x ∈ xs → ∀ p ∈ lamT K xs, p.1 = lawP K x → p.2 = (x ++ ".<locals>.") ++ "<lambda>"
  | [], _, _, h, _, _, _ => nomatch h
  | y :: ys, nd, x, h, p, hp, e => by
    obtain ⟨n1, n2⟩ := List.nodup_cons.mp nd
    rcases List.mem_cons.mp hp with hp | hp
    · rw [hp] at e ⊢
      have e1 : lawP K y = lawP K x := e
      rcases List.mem_cons.mp h with h | h
      · rw [h]
      · exact absurd (e1 ▸ List.mem_map_of_mem h) n1
    · rcases List.mem_cons.mp h with h | h
      · obtain ⟨z, hz, rfl⟩ := List.mem_map.mp hp
        have e1 : lawP K z = lawP K x := e
        rw [h] at e1
        exact absurd (e1 ▸ List.mem_map_of_mem hz) n1
      · exact lamT_u n2 h p hp e
theorem lamT_m {K : PySem.W.Frag} {xs : List Str} {x : Str} (h : x ∈ xs) : (lawP K x, (x ++ ".<locals>.") ++ "<lambda>") ∈ lamT K xs := List.mem_map_of_mem (f := fun x => (lawP K x, (x ++ ".<locals>.") ++ "<lambda>")) h
/-- all that one lambda's making wants, in one -/
structure Mkr (K : PySem.W.Frag) (mg : Str → Option Value) (base : Heap) (xs : List Str) (x : Str) : Prop where
  tb : TabB base mg (lawC K x) (lawP K x)
  cd : cdOf K (He.ga K x) = .ref (lawC K x)
  mem : x ∈ xs
  nd : (xs.map (lawP K)).Nodup
theorem pe_lam1 {X : Cx} {xs : List Str} {x : Str} {params : Arguments} {body : Expr} {scope : Scope} {pos : Pos} {cdv : Value} (D : Mkr X.K X.mg X.base xs x) (hc : cdOf X.K (He.ga X.K x) = cdv) (he : X.env.code = cdv) (hq : X.env.qual = x ++ ".<locals>.") (ok : ∀ {pins σ H s}, Inv X pins σ H s → X.Ok) (L : LamS X.env.scope scope)
    (hdef : defaultsOf params X.env = ([], [])) : PE X (.Lambda params body scope pos) (tLamV (lamT X.K xs) X.env.qual X.env.cells params body scope) :=
  pe_lamV D.tb (he.trans (hc.symm.trans D.cd)) ok L (by rw [hq]; exact lamT_m D.mem) (by rw [hq]; exact lamT_u D.nd D.mem) hdef
mutual
theorem Pv.extN {H H' : Hp} (c : ExtN H H') : ∀ (d : PyData) (v : V), Pv H v d → Pv H' v d
  | .none, _, h => by cases h; exact .non
  | .bool b, _, h => by cases h; exact .bl b
  | .int i, _, h => by cases h; exact .int i
  | .str x, _, h => by cases h; exact .str x
  | .list ds, _, h => by cases h with | lst e r => exact .lst (c _ _ e fun _ z => nomatch z) (PvAll.extN c ds _ r)
  | .tuple ds, _, h => by cases h with | tup e r => exact .tup (c _ _ e fun _ z => nomatch z) (PvAll.extN c ds _ r)
  | .dict ps, _, h => by cases h with
    | d0 e => exact .d0 (c _ _ e fun _ z => nomatch z)
    | d1 e => exact .d1 (c _ _ e fun _ z => nomatch z)
theorem PvAll.extN {H H' : Hp} (c : ExtN H H') : ∀ (ds : List PyData) (vs : List V), PvAll H vs ds → PvAll H' vs ds
  | [], _, h => by cases h; exact .nil
  | d :: ds, _, h => by cases h with | cons k r => exact .cons (Pv.extN c d _ k) (PvAll.extN c ds _ r)
end
theorem RepO.extN {H H' : Hp} {v : V} {z : Str} (h : RepO H v z) (c : ExtN H H') : RepO H' v z := by
  cases h with
  | non => exact .non
  | bl b => exact .bl b
  | int h => exact .int h
  | str h => exact .str h
  | box h s => exact .box (h.extN c) s
theorem Ch.toN {H H' : Hp} (c : Ch [] H H') : ExtN H H' := ExtN.of fun b o e => c b o e List.not_mem_nil
theorem Tabs.ch {T : List (Addr × Str)} {H H' : Hp} (t : Tabs T H) (c : Ch [] H H') : Tabs T H' := t.ext fun b o e => c b o e List.not_mem_nil
/-- what stood is not what is new -/
theorem ExtN.old {H H' : Hp} {p : Addr} (c : ExtN H H') (n : H' p = none) : ∀ o, H p = some o → ∃ ps, o = .tbl ps := fun o e => by
  cases o with
  | tbl ps => exact ⟨ps, rfl⟩
  | _ =>
    have := c _ _ e fun ps z => nomatch z
    rw [n] at this; cases this
theorem ne_tblO {l : List Ent} (hl : softL l = true) {e : Ent} (he : e ∈ l) (ps : Array Value) : e.2.1 ≠ .tbl ps := fun z => by
  have h1 := (Bool.and_eq_true_iff.mp (List.all_eq_true.mp hl e he)).2
  rw [z] at h1
  cases h1
/-- .. and what a def has made beside tables -/
theorem Sh.extK {H0 H H1 : Hp} {M : Addr → Prop} {l : List Ent} {p : Addr} {o : HO} (S : Sh H0 M H l) (hl : softL l = true) (e : ExtN H H1) (old : ∀ o, H p = some o → ∃ ps, o = .tbl ps) (h : H1 p = some o) : Sh H1 (Mu l) H1 ((p, o, false) :: l) :=
  (S.extN hl e).know h fun x hx _ z => by
    obtain ⟨ps, y⟩ := old _ (by rw [z]; exact S.has x hx)
    exact ne_tblO hl hx ps y
/-- a def of the program's called with a lambda that raises -/
theorem g_actr {H0 H : Hp} {M : Addr → Prop} {l : List Ent} {T : List (Addr × Str)} {q : Str} {cells : List (Str × Addr)} {params : Arguments} {body : Expr} {scope : Scope} {t : XK → TE} {cs : List (Addr × Str)} {σ : L2.St} {Q : VK} (S : Sh H0 M H l) (sf : Soft H0 M) (tb : Tabs T H0) (hl : softL l = true)
    (k : ∀ (H1 H2 : Hp) (E : XK) (Q' : VK), ExtN H H1 → Soft H1 (Mu l) → Tabs T H1 → ExtN H H2 → Sh H1 (Mu l) H2 l → (∀ (C dd : Addr) (v : V) (z kw : Str) (H3 : Hp), Ch [] H2 H3 → H3 dd = some (.xd [("value", v)]) → RepO H3 v z → (C, kw) ∈ cs →
      (∀ p H4, ExtN H H4 → Sh H1 (Mu l) H4 ((p, .lst [.str kw, .str z, .bl true], true) :: l) → Q (.ref p) H4) → E (.ref C) (some dd) H3) → t E σ H2 Q') :
    tLamV T q cells params body scope σ H (kAct q cells [⟨params, body, scope, t⟩] (TTr cs) σ Q) := by
  refine ⟨Tabs.along tb S sf, fun lf lc H1 md => ⟨lf, lc, _, List.mem_singleton_self _, rfl, md.lam, md.code, ?_⟩⟩
  intro p H2 E Q' hn ch hp hw
  have S1 := S.extN hl md.ext
  refine k H1 H2 E Q' md.ext (soft_again S1 hl) md.tabs (md.ext.trans (Ch.toN ch)) (S1.ch0 ch) fun C dd v z kw H3 c3 hx hz hm fin => ?_
  refine hw _ _ _ ⟨C, dd, v, z, kw, rfl, rfl, hx, hz, hm, fun p4 H4 hn4 c4 hp4 => ?_⟩
  exact fin p4 H4 ((md.ext.trans (Ch.toN ch)).trans ((Ch.toN c3).trans (Ch.toN c4))) ((((S1.ch0 ch).ch0 c3)).add c4 hn4 hp4)
/-- two ways to one value -/
theorem g_ivB {b : Bool} {ta tb : VK → Prop} {v : V} {H : Hp} {Q : VK} (h1 : b = true → ∀ Q : VK, Q v H → ta Q) (h2 : b = false → ∀ Q : VK, Q v H → tb Q) (q : Q v H) : if b = true then ta Q else tb Q := by
  cases b with
  | true => rw [if_pos rfl]; exact h1 rfl Q q
  | false => rw [if_neg (by decide)]; exact h2 rfl Q q
/-- two ways that come together -/
theorem g_meetB {b : Bool} {t u : TS} {nx : L2.St → Hp → Prop} {rt : VK} {bk ct : L2.St → Hp → Prop} {σ : L2.St} {H : Hp} (W : L2.St → Hp → Prop) (h1 : b = true → ∀ nx' : L2.St → Hp → Prop, (∀ σ H, W σ H → nx' σ H) → t ⟨nx', rt, bk, ct⟩ σ H) (h2 : b = false → ∀ nx' : L2.St → Hp → Prop, (∀ σ H, W σ H → nx' σ H) → u ⟨nx', rt, bk, ct⟩ σ H)
    (q : ∀ σ H, W σ H → nx σ H) : if b = true then t ⟨nx, rt, bk, ct⟩ σ H else u ⟨nx, rt, bk, ct⟩ σ H := by
  cases b with
  | true => rw [if_pos rfl]; exact h1 rfl nx q
  | false => rw [if_neg (by decide)]; exact h2 rfl nx q
/-- two statements, then the rest -/
theorem g_cut2 {t1 t2 u : TS} {nx : L2.St → Hp → Prop} {rt : VK} {bk ct : L2.St → Hp → Prop} {σ : L2.St} {H : Hp} (P : L2.St → Hp → Prop) (a : ∀ nx' : L2.St → Hp → Prop, (∀ σ H, P σ H → nx' σ H) → tSeq t1 t2 ⟨nx', rt, bk, ct⟩ σ H) (b : ∀ σ H, P σ H → u ⟨nx, rt, bk, ct⟩ σ H) :
    tSeq t1 (tSeq t2 u) ⟨nx, rt, bk, ct⟩ σ H := a (fun σ H => u ⟨nx, rt, bk, ct⟩ σ H) b
/-! the head, several tables looked at -/
def lamC (K : PySem.W.Frag) (xs : List Str) : List (Addr × Addr) := xs.map fun x => (lawC K x, lawP K x)
theorem tabs0 {K : PySem.W.Frag} {xs : List Str} {H : Hp} (h : ∀ p ∈ lamC K xs, H p.2 = some (.tbl #[])) : Tabs (lamT K xs) H := fun p hp => by
  obtain ⟨x, hx, rfl⟩ := List.mem_map.mp hp
  exact TabS.nil (h (lawC K x, lawP K x) (List.mem_map_of_mem (f := fun x => (lawC K x, lawP K x)) hx))
theorem mkr_of {K : PySem.W.Frag} {mg : Str → Option Value} {base : Heap} {xs : List Str} {x : Str} (hT : ∀ p ∈ lamC K xs, TabB base mg p.1 p.2) (hb : ∀ x ∈ xs, lawB K x = true) (nd : (xs.map (lawP K)).Nodup) (hx : x ∈ xs) : Mkr K mg base xs x :=
  ⟨hT (lawC K x, lawP K x) (List.mem_map_of_mem (f := fun x => (lawC K x, lawP K x)) hx), (lawB_ok (hb x hx)).2.2, hx, nd⟩
theorem lamC_C {K : PySem.W.Frag} {h : Heap} {xs : List Str} (KX : K.In h) (hb : ∀ x ∈ xs, lawB K x = true) : ∀ p ∈ lamC K xs, PySem.W.CodeHd h p.1 p.2 := fun p hp => by
  obtain ⟨x, hx, rfl⟩ := List.mem_map.mp hp
  exact PySem.W.codeHd_of_K KX (lawB_ok (hb x hx)).1
theorem lamC_n {K : PySem.W.Frag} {xs : List Str} (hb : ∀ x ∈ xs, lawB K x = true) : ∀ p ∈ lamC K xs, K.lookup p.2 = none := fun p hp => by
  obtain ⟨x, hx, rfl⟩ := List.mem_map.mp hp
  exact (lawB_ok (hb x hx)).2.1
section
open He
open PySem.W (Frag OpenRow)
def lookTM (n : Nat) (xs : List Str) (fs : Frag → List Bool) (ds : List DA) (ts : List Tab) (g : Addr → Option Obj) : SeenT × Bool :=
  (lookTR n fs ds ts g, (fun K : Frag => xs.all fun x => lawB K x && isTab (g (lawP K x))) (frG g (PySem.cStatics :: asP g n [mainGlobals] [mainGlobals])))
def hookM (n : Nat) (xs : List Str) (fs : Frag → List Bool) (ds : List DA) (ts : List Tab) : PySem.W.Hook where
  α := SeenT × Bool
  obs := fun s => lookTM n xs fs ds ts s.heap.get?
  val := fun w => (lookTW ds ts w, true)
  says := fun w h => ∃ K : Frag, K.In h ∧ TellsT fs ds ts w K ∧ ∀ x ∈ xs, lawB K x = true ∧ h.get? (lawP K x) = some oTab
  of := fun _ _ e => by
    obtain ⟨e1, e2⟩ := Prod.mk.inj e
    exact ⟨_, frG_in, e1, fun x hx => by
      obtain ⟨e3, e4⟩ := Bool.and_eq_true_iff.mp (List.all_eq_true.mp e2 x hx)
      exact ⟨e3, isTab_ok e4⟩⟩
  keeps := fun _ _ _ ⟨K, hK, c, b⟩ k => ⟨K, Frag.In.keeps hK k, c, fun x hx => ⟨(b x hx).1, k _ _ (b x hx).2⟩⟩
theorem lookTM_eq {n : Nat} {xs : List Str} {fs : Frag → List Bool} {ds : List DA} {ts : List Tab} {g : Addr → Option Obj} {s : Shared} (h : ∀ a, g a = s.heap.get? a) : lookTM n xs fs ds ts g = (hookM n xs fs ds ts).obs s := by
  have e : g = s.heap.get? := funext h
  rw [e]
  rfl
end
end AF
/-! x + y with an own y, x any data *-/
namespace AF
open PySem PySem.Spec PyProof.Rows L2 LamX
open PySem.W (InstAt Looks selfFirst findIn subIn isFn looks_subIn)
theorem nofill_of {T : String} {nm : String} {f r : Option Value} (hf : typeLookup (.type T) (dunder nm) = pure f) (hr : typeLookup (.type T) (dunderR nm) = pure r) (e : ((f.isSome && !isSeqSlot f) || (r.isSome && !isSeqSlot r)) = false) : fillsNumberSlot (.type T) nm = pure false := by
  unfold fillsNumberSlot
  simp only [hf, hr, pure_bind, e]
theorem nofill_list : fillsNumberSlot (.type "list") "add" = pure false := nofill_of (f := some (.builtin "list.__add__")) (r := none) (by rw [typeLookup_type, builtinLookup_eq_fast]; kernel_rfl) (by rw [typeLookup_type, builtinLookup_eq_fast]; kernel_rfl) (by decide +kernel)
theorem nofill_tuple : fillsNumberSlot (.type "tuple") "add" = pure false := nofill_of (f := some (.builtin "tuple.__add__")) (r := none) (by rw [typeLookup_type, builtinLookup_eq_fast]; kernel_rfl) (by rw [typeLookup_type, builtinLookup_eq_fast]; kernel_rfl) (by decide +kernel)
theorem nofill_str : fillsNumberSlot (.type "str") "add" = pure false := nofill_of (f := some (.builtin "str.__add__")) (r := none) (by rw [typeLookup_type, builtinLookup_eq_fast]; kernel_rfl) (by rw [typeLookup_type, builtinLookup_eq_fast]; kernel_rfl) (by decide +kernel)
theorem nofill_none : fillsNumberSlot (.type "NoneType") "add" = pure false := nofill_of (f := none) (r := none) (by rw [typeLookup_type, builtinLookup_eq_fast]; kernel_rfl) (by rw [typeLookup_type, builtinLookup_eq_fast]; kernel_rfl) (by decide +kernel)
theorem nofill_dict : fillsNumberSlot (.type "dict") "add" = pure false := nofill_of (f := none) (r := none) (by rw [typeLookup_type, builtinLookup_eq_fast]; kernel_rfl) (by rw [typeLookup_type, builtinLookup_eq_fast]; kernel_rfl) (by decide +kernel)
section
variable {prog : Program} {w : World} {A : Around} {E : Value → Shared → Prop} {s : Shared} {K : PySem.W.Frag} {y C f : Addr} {oy : Obj} {od : Option Obj}
/-- the left type has no such slot: the right one's method is taken -/
theorem bin_rightN {op : Operator} {a : Value} {T : String} {Q : Value → Shared → Prop} (X : K.In s.heap) (I : InstAt s.heap y oy C od) (B : BinR K op C f) (la : Looks (model prog w) s.heap (typeOf a) (.type T)) (fi : fillsNumberSlot (.type T) op.info.2 = pure false)
    (h : wpAny (model prog w) A (call (.ref f) [.ref y, a]) (PySem.W.CmpBack Q) E s) : wpAny (model prog w) A (binaryOp op a (.ref y)) Q E s := by
  obtain ⟨cd, rest, hcd, hm⟩ := PySem.W.ksp_first B.hc
  obtain ⟨g', hs⟩ := B.hs
  have hr := B.hr
  rcases hi : op.info with ⟨sym, nm⟩
  rw [hi] at hs hr fi
  dsimp only at hs hr fi
  have one := PySem.W.ksp_try X I hr B.hf h
  obtain ⟨hh, g, d, tt, os⟩ := s
  have lb : Looks (model prog w) hh (typeOf (.ref y)) (.ref C) := I.type
  have lf : Looks (model prog w) hh (fillsNumberSlot (.type T) nm) false := Looks.of_pure fi
  have lg : Looks (model prog w) hh (fillsNumberSlot (.ref C) nm) true := PySem.W.fills_K X hcd hm hs
  have hne : (Value.type T == Value.ref C) = false := Bool.eq_false_iff.mpr fun q => by cases beq_iff_eq.mp q
  simp only [binaryOp, hi]
  refine wpAny_holding (wpAny_bind ?_)
  unfold binaryOp1
  refine wpAny_bind (la.at (wpAny_bind (lb.at (wpAny_bind (lf.at ?_)))))
  simp only [hne, Bool.false_eq_true, if_false]
  ksp_lk
  refine wpAny_mono one (fun r s' hr' => ?_) fun _ _ e => e
  obtain ⟨v, rfl, hq⟩ := hr'
  ksp_lk
  exact hq
theorem add_declinesB (b : Bool) (y : Addr) : Meets (Builtin.«int.__add__» ⟨[.bool b, .ref y], []⟩) (Declines y) :=
  .of_wp fun prog w A R s h => by
    obtain ⟨hp, g, d, tk, os⟩ := s
    obtain ⟨⟨C, dx, hl⟩, h⟩ := h
    unfold PySem.W.instObj at hl
    wp_walk using AutoSeq1.wpAny_loadPart' hl
    exact ⟨_, rfl, h⟩
theorem bin_rightB {i : Bool} {Q : Value → Shared → Prop} (X : K.In s.heap) (I : InstAt s.heap y oy C od) (B : BinR K .Add C f) (hbb : subIn K (.ref C) (.type "bool") = some false) (hy : ∃ C dx, s.heap.get? y = some (PySem.W.instObj C dx))
    (h : wpAny (model prog w) A (call (.ref f) [.ref y, .bool i]) (PySem.W.CmpBack Q) E s) : wpAny (model prog w) A (binaryOp .Add (.bool i) (.ref y)) Q E s := by
  obtain ⟨cd, rest, hcd, hm⟩ := PySem.W.ksp_first B.hc
  obtain ⟨g', hs⟩ := B.hs
  have hr := B.hr
  have one := PySem.W.ksp_try X I hr B.hf h
  have none1 : wpAny (model prog w) A (tryMethod (.bool i) (PySem.dunder "add") (.ref y)) (fun r s' => r = none ∧ s' = s) E s :=
    wpAny_tryMethod_declines (PySem.typeIs_bool _ _) PySem.F.slot_bool_add (call_meets PySem.F.slot_bool_add (PySem.typeIs_bool _ _) PySem.F.entry_int_add (PySem.F.args_int_add_2 _ _) (add_declinesB _ _) ⟨hy, rfl, rfl, rfl⟩)
  obtain ⟨hh, g, d, tt, os⟩ := s
  have la : Looks (model prog w) hh (typeOf (.bool i)) (.type "bool") := Looks.of_pure rfl
  have lb : Looks (model prog w) hh (typeOf (.ref y)) (.ref C) := I.type
  have lf : Looks (model prog w) hh (fillsNumberSlot (.type "bool") "add") true := Looks.of_pure PySem.F.fills_bool_add
  have lg : Looks (model prog w) hh (fillsNumberSlot (.ref C) "add") true := PySem.W.fills_K X hcd hm hs
  have lsub : Looks (model prog w) hh (isSubtype (.ref C) (.type "bool")) false := looks_subIn X hbb
  have lpt : Looks (model prog w) hh (numberSlotInPython (.type "bool") "add") false := Looks.of_pure rfl
  have hne : (Value.type "bool" == Value.ref C) = false := Bool.eq_false_iff.mpr fun q => by cases beq_iff_eq.mp q
  simp only [binaryOp, Operator.info]
  refine wpAny_holding (wpAny_bind ?_)
  unfold binaryOp1
  refine wpAny_bind (la.at (wpAny_bind (lb.at (wpAny_bind (lf.at ?_)))))
  simp only [hne, Bool.false_eq_true, if_false]
  ksp_lk
  refine wpAny_mono none1 (fun r s' hr' => ?_) fun _ _ e => e
  obtain ⟨rfl, rfl⟩ := hr'
  ksp_lk
  refine wpAny_mono one (fun r s' hr' => ?_) fun _ _ e => e
  obtain ⟨v, rfl, hq⟩ := hr'
  ksp_lk
  exact hq
end
section
variable {X : Cx} {pins : List (Addr × Obj)} {σ : L2.St} {H : Hp} {s : Shared} {k : Nat} {f C : Addr} {ps : List Str} {sp : Sp} {E : XK} {Q : VK}
def rRightD (C : Addr) (sp : Sp) (E : XK) : R2 := fun x y H Q => ∃ a dx fs d, y = .ref a ∧ H a = some (.ins C dx fs) ∧ Pv H x d ∧ sp [y, x] H Q E
theorem Pv.kd {v : V} {d : PyData} (h : Pv H v d) : Kd H v (.type (tyN d)) := by
  cases h with
  | non => exact .non
  | bl b => exact .bl b
  | int i => exact .int i
  | str x => exact .str x
  | lst e r => exact .lst e
  | tup e r => exact .tup e
  | d0 e => exact .dK e
  | d1 e => exact .dK e
theorem op_rightD (D : Dn X.prog X.w X.K X.mg X.base k f ps sp) (B : BinR X.K .Add C f) (hbb : subIn X.K (.ref C) (.type "bool") = some false) (hr : Room k X.A) (hx : Passes (L2.CX X.prog X.w) X E) : OpR X (binaryOp .Add) (rRightD C sp E) := by
  intro pins s σ H x y v u Q I rx ry h
  obtain ⟨a, dx, fs, d, rfl, ha, hp, q⟩ := h
  cases ry
  obtain ⟨fd, F, b⟩ := D.ex
  obtain ⟨_, _, _, hy, _⟩ := (show ObjOk X.prog X.w H s.heap a (.ins C dx fs) from I.hok a _ ha)
  obtain ⟨mA, J, _⟩ := ins_get I.hok ha
  obtain ⟨od, J, _⟩ := J.look
  have run := thn (run_fn (us := [.ref a, v]) (vs := [.ref a, x]) F hr b .nil hx I (.cons rfl (.cons rx .nil)) q) fun v s' z => cmpBack_of z
  have la := hp.kd.looks (M := model X.prog X.w) I rx
  cases d with
  | int i =>
    cases hp
    obtain ⟨t, rfl⟩ := rx
    exact bin_right I.kIn J B PySem.F.slot_int_add PySem.F.fills_int_add PySem.F.entry_int_add (PySem.F.args_int_add_2 _ _) (add_declines _ _ _) ⟨_, _, hy⟩ run
  | bool i =>
    cases hp
    cases rx
    exact bin_rightB I.kIn J B hbb ⟨_, _, hy⟩ run
  | none => exact bin_rightN I.kIn J B la nofill_none run
  | str x => exact bin_rightN I.kIn J B la nofill_str run
  | list ds => exact bin_rightN I.kIn J B la nofill_list run
  | tuple ds => exact bin_rightN I.kIn J B la nofill_tuple run
  | dict ds => exact bin_rightN I.kIn J B la nofill_dict run
end
theorem g_rightD {H : Hp} {Q : VK} {E : XK} {C : Addr} {sp : Sp} {x : V} {d : PyData} {a dx : Addr} {fs : List (Str × V)} (ho : H a = some (.ins C dx fs)) (hp : Pv H x d) (q : sp [.ref a, x] H Q E) : rRightD C sp E x (.ref a) H Q := ⟨a, dx, fs, d, rfl, ho, hp, q⟩
/-! what a call is to raise, where the def that calls gives the error's field itself -/
def WishI (C : Addr) (f : Str) (Q : VK) : XK := fun cls d H' => ∃ dd v, cls = .ref C ∧ d = some dd ∧ H' dd = some (.xd [(f, v)]) ∧ ∀ H'', Ch [] H' H'' → Q v H''
def TTi (C : Addr) (f : Str) : (XK → Hp → VK → Prop) → Hp → VK → Prop := fun tl H Q => ∀ (E : XK) (Q' : VK), (∀ cls d H', WishI C f Q cls d H' → E cls d H') → tl E H Q'
end AF
/-! several lambdas; parts of a text -/
namespace AF
open PySem PySem.Spec PyProof.Rows L2 LamX
/-! a def called with one of several lambdas -/
/-- the lambdas, one behind the other -/
inductive Dall (X : Cx) (k : Nat) : List LamD → Prop
  | nil : Dall X k []
  | cons {ex : Expr} {params : Arguments} {body : Expr} {scope : Scope} {lpos : Pos} {t : XK → TE} {r : List LamD} (h : ex = .Lambda params body scope lpos) (L : LamS X.env.scope scope)
      (hbind : ∀ (q : Str) (cl : List (Str × Addr)) (pm cv ctv : Value), bindArgs (PySem.W.kla_fn "<lambda>" q params body scope cl pm cv ctv) ⟨[], []⟩ = pure [])
      (hbody : ∀ (A : Around) (outer : List Env) (s : Shared) (H : Hp) (E : XK) (f c' : Addr), Room k (A.deeper (lamEnv X scope s.heap.objs.size f c')) → PE (lamCx X A outer s H E scope f c') body (t E)) (rest : Dall X k r) : Dall X k (⟨params, body, scope, t⟩ :: r)
theorem Dall.all {X : Cx} {k : Nat} : ∀ {ds : List LamD}, Dall X k ds → ∀ d ∈ ds, LamS X.env.scope d.scope ∧ (∀ (q : Str) (cl : List (Str × Addr)) (pm cv ctv : Value), bindArgs (PySem.W.kla_fn "<lambda>" q d.params d.body d.scope cl pm cv ctv) ⟨[], []⟩ = pure []) ∧
      ∀ (A : Around) (outer : List Env) (s : Shared) (H : Hp) (E : XK) (f c' : Addr), Room k (A.deeper (lamEnv X d.scope s.heap.objs.size f c')) → PE (lamCx X A outer s H E d.scope f c') d.body (d.t E)
  | _, .cons h L hb hy r, d, hd => by
    rcases List.mem_cons.mp hd with e | e
    · subst e; exact ⟨L, hb, hy⟩
    · exact r.all d e
theorem dall6 {X : Cx} {k : Nat} {ex0 : Expr} {params0 : Arguments} {body0 : Expr} {scope0 : Scope} {lpos0 : Pos} {t0 : XK → TE} {ex1 : Expr} {params1 : Arguments} {body1 : Expr} {scope1 : Scope} {lpos1 : Pos} {t1 : XK → TE} {ex2 : Expr} {params2 : Arguments} {body2 : Expr} {scope2 : Scope} {lpos2 : Pos} {t2 : XK → TE} {ex3 : Expr} {params3 : Arguments} {body3 : Expr} {scope3 : Scope} {lpos3 : Pos} {t3 : XK → TE} {ex4 : Expr} {params4 : Arguments} {body4 : Expr} {scope4 : Scope} {lpos4 : Pos} {t4 : XK → TE} {ex5 : Expr} {params5 : Arguments} {body5 : Expr} {scope5 : Scope} {lpos5 : Pos} {t5 : XK → TE} (h0 : ex0 = .Lambda params0 body0 scope0 lpos0) (L0 : LamS X.env.scope scope0) (b0 : ∀ (q : Str) (cl : List (Str × Addr)) (pm cv ctv : Value), bindArgs (PySem.W.kla_fn "<lambda>" q params0 body0 scope0 cl pm cv ctv) ⟨[], []⟩ = pure []) (y0 : ∀ (A : Around) (outer : List Env) (s : Shared) (H : Hp) (E : XK) (f c' : Addr), Room k (A.deeper (lamEnv X scope0 s.heap.objs.size f c')) → PE (lamCx X A outer s H E scope0 f c') body0 (t0 E)) (h1 : ex1 = .Lambda params1 body1 scope1 lpos1) (L1 : LamS X.env.scope scope1) (b1 : ∀ (q : Str) (cl : List (Str × Addr)) (pm cv ctv : Value), bindArgs (PySem.W.kla_fn "<lambda>" q params1 body1 scope1 cl pm cv ctv) ⟨[], []⟩ = pure []) (y1 : ∀ (A : Around) (outer : List Env) (s : Shared) (H : Hp) (E : XK) (f c' : Addr), Room k (A.deeper (lamEnv X scope1 s.heap.objs.size f c')) → PE (lamCx X A outer s H E scope1 f c') body1 (t1 E)) (h2 : ex2 = .Lambda params2 body2 scope2 lpos2) (L2 : LamS X.env.scope scope2) (b2 : ∀ (q : Str) (cl : List (Str × Addr)) (pm cv ctv : Value), bindArgs (PySem.W.kla_fn "<lambda>" q params2 body2 scope2 cl pm cv ctv) ⟨[], []⟩ = pure []) (y2 : ∀ (A : Around) (outer : List Env) (s : Shared) (H : Hp) (E : XK) (f c' : Addr), Room k (A.deeper (lamEnv X scope2 s.heap.objs.size f c')) → PE (lamCx X A outer s H E scope2 f c') body2 (t2 E)) (h3 : ex3 = .Lambda params3 body3 scope3 lpos3) (L3 : LamS X.env.scope scope3) (b3 : ∀ (q : Str) (cl : List (Str × Addr)) (pm cv ctv : Value), bindArgs (PySem.W.kla_fn "<lambda>" q params3 body3 scope3 cl pm cv ctv) ⟨[], []⟩ = pure []) (y3 : ∀ (A : Around) (outer : List Env) (s : Shared) (H : Hp) (E : XK) (f c' : Addr), Room k (A.deeper (lamEnv X scope3 s.heap.objs.size f c')) → PE (lamCx X A outer s H E scope3 f c') body3 (t3 E)) (h4 : ex4 = .Lambda params4 body4 scope4 lpos4) (L4 : LamS X.env.scope scope4) (b4 : ∀ (q : Str) (cl : List (Str × Addr)) (pm cv ctv : Value), bindArgs (PySem.W.kla_fn "<lambda>" q params4 body4 scope4 cl pm cv ctv) ⟨[], []⟩ = pure []) (y4 : ∀ (A : Around) (outer : List Env) (s : Shared) (H : Hp) (E : XK) (f c' : Addr), Room k (A.deeper (lamEnv X scope4 s.heap.objs.size f c')) → PE (lamCx X A outer s H E scope4 f c') body4 (t4 E)) (h5 : ex5 = .Lambda params5 body5 scope5 lpos5) (L5 : LamS X.env.scope scope5) (b5 : ∀ (q : Str) (cl : List (Str × Addr)) (pm cv ctv : Value), bindArgs (PySem.W.kla_fn "<lambda>" q params5 body5 scope5 cl pm cv ctv) ⟨[], []⟩ = pure []) (y5 : ∀ (A : Around) (outer : List Env) (s : Shared) (H : Hp) (E : XK) (f c' : Addr), Room k (A.deeper (lamEnv X scope5 s.heap.objs.size f c')) → PE (lamCx X A outer s H E scope5 f c') body5 (t5 E)) : Dall X k [⟨params0, body0, scope0, t0⟩, ⟨params1, body1, scope1, t1⟩, ⟨params2, body2, scope2, t2⟩, ⟨params3, body3, scope3, t3⟩, ⟨params4, body4, scope4, t4⟩, ⟨params5, body5, scope5, t5⟩] := (.cons h0 L0 b0 y0 (.cons h1 L1 b1 y1 (.cons h2 L2 b2 y2 (.cons h3 L3 b3 y3 (.cons h4 L4 b4 y4 (.cons h5 L5 b5 y5 .nil))))))
theorem pe_actN {X : Cx} {TT : (XK → Hp → VK → Prop) → Hp → VK → Prop} {x a : Str} {g : Addr} {k : Nat} {pg : Arguments} {bg : List Stmt} {sg : Scope} {fd : FuncData} {Ng : List Str} {ds : List LamD} {e : Expr} {ta : TE} {p pos : Pos}
    (F : FunD X.K x x pg bg sg [] [] g fd) (b : Binds X.K fd [a] []) (Sg : FnScope Ng [a] sg) (hNg : Ng[0]? = some a) (hva : Vis sg a) (hG : ∀ cdg, ActOk X Ng x sg g cdg bg a TT) (hr : Room (k + 2) X.A) (hg : Gl X x) (hm : X.mg x = some (.ref g)) (hds : Dall X k ds) (he : PE X e ta)
    (hst : starEach [e] X.env = (false, eval e X.env) :: starEach [] X.env := by rfl) (hpl : (backTo pos (starEach [] X.env)).any (·.1) = false := by rfl)
    (hdb : (x == ("__debug__" : Str)) = false := by decide) (hd : (a == ("__debug__" : Str)) = false := by decide) (hcd : (a == ("__classdict__" : Str)) = false := by decide) : PE X (.Call (.Name x p) [e] [] pos) (tAct X.env.qual X.env.cells ds TT ta) := by
  obtain ⟨oc, od, dV, kV, doc, pm, an, cdv, ct, osl, rfl, lk, hcd', _, _⟩ := F.ex
  exact pe_actG hg hm F.kp lk hcd' b Sg hNg hva (hG cdv) hr hds.all he hst hpl hdb hd hcd
/-! parts of a text -/
def bodyS : Stmt → List Stmt
  | .For _ _ b _ _ => b
  | _ => []
def valS : Stmt → Expr
  | .Assign _ v _ => v
  | .Expr v _ => v
  | _ => .Constant .none 0 ⟨0, 0, 0, 0⟩
def argE (i : Nat) : Expr → Expr
  | .Call _ l _ _ => l.getD i (.Constant .none 0 ⟨0, 0, 0, 0⟩)
  | .List l _ => l.getD i (.Constant .none 0 ⟨0, 0, 0, 0⟩)
  | e => e
def stS (l : List Stmt) (i : Nat) : Stmt := l.getD i (.Pass ⟨0, 0, 0, 0⟩)
/-- a lambda's run in the def that gives the error's field -/
theorem g_acti {H0 H : Hp} {M : Addr → Prop} {l : List Ent} {T : List (Addr × Str)} {q : Str} {cells : List (Str × Addr)} {params : Arguments} {body : Expr} {scope : Scope} {t : XK → TE} {C : Addr} {fn : Str} {σ : L2.St} {Q : VK} (S : Sh H0 M H l) (sf : Soft H0 M) (tb : Tabs T H0) (hl : softL l = true)
    (k : ∀ (H1 : Hp) (E : XK) (Q' : VK), ExtN H H1 → Soft H1 (Mu l) → Tabs T H1 → Sh H1 (Mu l) H1 l → (∀ (dd : Addr) (v : V) (H3 : Hp), H3 dd = some (.xd [(fn, v)]) → (∀ H4, Ch [] H3 H4 → Q v H4) → E (.ref C) (some dd) H3) → t E σ H1 Q') :
    tLamV T q cells params body scope σ H (kAct q cells [⟨params, body, scope, t⟩] (TTi C fn) σ Q) := by
  refine ⟨Tabs.along tb S sf, fun lf lc H1 md => ⟨lf, lc, _, List.mem_singleton_self _, rfl, md.lam, md.code, ?_⟩⟩
  intro E Q' hw
  have S1 := S.extN hl md.ext
  exact k H1 E Q' md.ext (soft_again S1 hl) md.tabs S1 fun dd v H3 hx fin => hw _ _ _ ⟨dd, v, rfl, rfl, hx, fin⟩
section
variable {X : Cx} {K : PySem.W.Frag} {k : Nat} {f C : Addr} {ps : List Str} {sp : Sp} {E : XK}
theorem op_ownK {op : Operator} (D : Dn X.prog X.w X.K X.mg X.base k f ps sp) (B : Bin X.K op C f) (hr : Room k X.A) (hx : Passes (L2.CX X.prog X.w) X E) (hK : X.K = K := by rfl) : OpR X (binaryOp op) (rOwn K op C sp E) := hK ▸ op_own D B hr hx
theorem cmp_leK (D : Dn X.prog X.w X.K X.mg X.base k f ps sp) (B : Cmp X.K .LtE C f) (hr : Room k X.A) (hx : Passes (L2.CX X.prog X.w) X E) (hK : X.K = K := by rfl) : OpR X (compareOp .LtE) (rCmp K C sp E) := hK ▸ cmp_le D B hr hx
end
theorem sl_listK {X : Cx} {K : PySem.W.Frag} (hK : X.K = K := by rfl) : SlR X (rSlL K) := hK ▸ sl_list
section
variable {K : PySem.W.Frag} {r : V → Option Int → Option Int → Hp → VK → Prop} {te t : TE} {tl th : TO} {σ : L2.St} {H : Hp} {Q : VK} {x : V} {lo : Option Int} {i : Int}
def kSl1 (r : V → Option Int → Option Int → Hp → VK → Prop) (tl th : TO) (σ : L2.St) (Q : VK) (x : V) (H1 : Hp) : Prop := tl σ H1 fun l H2 => th σ H2 fun u H3 => r x l u H3 Q
def kSlU (r : V → Option Int → Option Int → Hp → VK → Prop) (th : TO) (σ : L2.St) (Q : VK) (x : V) (lo : Option Int) (H2 : Hp) : Prop := th σ H2 fun u H3 => r x lo u H3 Q
def kSlP (r : V → Option Int → Option Int → Hp → VK → Prop) (th : TO) (σ : L2.St) (Q : VK) (x y : V) (H1 : Hp) : Prop := ∃ i, y = .int i ∧ kSlU r th σ Q x (some i) H1
def kSlV (r : V → Option Int → Option Int → Hp → VK → Prop) (Q : VK) (x : V) (lo : Option Int) (y : V) (H1 : Hp) : Prop := ∃ i, y = .int i ∧ r x lo (some i) H1 Q
instance : Step (L2.tSl r te tl th σ H Q) (te σ H (kSl1 r tl th σ Q)) := ⟨fun h => h⟩
instance : Step (kSl1 r tNoPart th σ Q x H) (kSlU r th σ Q x none H) := ⟨fun h => h⟩
instance : Step (kSl1 r (tPart t) th σ Q x H) (t σ H (kSlP r th σ Q x)) := ⟨fun h => h⟩
instance : Step (kSlP r th σ Q x (.int i) H) (kSlU r th σ Q x (some i) H) := ⟨fun h => ⟨i, rfl, h⟩⟩
instance : Step (kSlU r tNoPart σ Q x lo H) (r x lo none H Q) := ⟨fun h => h⟩
instance : Step (kSlU r (tPart t) σ Q x lo H) (t σ H (kSlV r Q x lo)) := ⟨fun h => h⟩
instance : Step (kSlV r Q x lo (.int i) H) (r x lo (some i) H Q) := ⟨fun h => ⟨i, rfl, h⟩⟩
theorem g_slL {H0 : Hp} {M : Addr → Prop} {l : List Ent} {a : Addr} {xs ys : List V} {hi : Option Int} (S : Sh H0 M H l) (o : On l a (.lst xs)) (e : cutV xs lo hi = ys) (q : ∀ p H', H p = none → Sh H0 M H' ((p, .lst ys, true) :: l) → Q (.ref p) H') : rSlL K (.ref a) lo hi H Q :=
  ⟨a, xs, rfl, SqL.of (S.has_ o), fun p hp => by rw [e]; exact q p _ hp (S.new hp)⟩
/-- one statement, then the rest -/
theorem g_cut1 {t1 u : TS} {nx : L2.St → Hp → Prop} {rt : VK} {bk ct : L2.St → Hp → Prop} (P : L2.St → Hp → Prop) (a : ∀ nx' : L2.St → Hp → Prop, (∀ σ H, P σ H → nx' σ H) → t1 ⟨nx', rt, bk, ct⟩ σ H) (b : ∀ σ H, P σ H → u ⟨nx, rt, bk, ct⟩ σ H) :
    tSeq t1 u ⟨nx, rt, bk, ct⟩ σ H := a (fun σ H => u ⟨nx, rt, bk, ct⟩ σ H) b
end
theorem g_mark {ta tb : TE} {g : TG} {u : TS} {D : Ends} {σ : L2.St} {H : Hp} (h : tSeq (tAsg (tOp rCat ta tb) g) u D σ H) : tSeq (tAsg (tOp rCat ta tb) g) u D σ H := h
/-- data whose objects are the entries E -/
def PvE (E : List Ent) (v : V) (d : PyData) : Prop := ∀ H2 : Hp, (∀ e ∈ E, H2 e.1 = some e.2.1) → Pv H2 v d
theorem PvE.of {H0 H : Hp} {M : Addr → Prop} {l E : List Ent} {v : V} {d : PyData} (h : PvE E v d) (S : Sh H0 M H l) (s : ∀ e ∈ E, e ∈ l) : Pv H v d := h H fun e he => S.has e (s e he)
theorem Sh.tail {H0 H : Hp} {M : Addr → Prop} {l1 l E : List Ent} (S : Sh H0 M H (l1 ++ l)) (s : List.Sublist E l1) : Sh H0 M H (l ++ E) := (S.cut (s.append (List.Sublist.refl l))).perm List.perm_append_comm
/-- entries that stay -/
def frz (l : List Ent) : List Ent := l.map fun e => (e.1, e.2.1, false)
/-- begun anew: b alone may be changed -/
theorem Sh.keep {H0 H : Hp} {M : Addr → Prop} {l1 l2 : List Ent} {b : Addr} {ob : HO} (S : Sh H0 M H (l1 ++ (b, ob, true) :: l2)) : Sh H (fun a => a = b) H ((b, ob, true) :: frz (l1 ++ l2)) := by
  have S' : Sh H0 M H ((b, ob, true) :: (l1 ++ l2)) := S.perm List.perm_middle
  have h1 := (List.pairwise_cons.mp S'.ap).1
  refine ⟨fun _ _ h _ => h, fun e he => ?_, ?_, fun e he hm => ?_⟩
  · rcases List.mem_cons.mp he with h | h
    · rw [h]; exact S'.has _ List.mem_cons_self
    · obtain ⟨e', he', rfl⟩ := List.mem_map.mp h
      exact S'.has e' (List.mem_cons_of_mem _ he')
  · refine List.pairwise_cons.mpr ⟨fun t ht => ?_, ?_⟩
    · obtain ⟨e2, he2, rfl⟩ := List.mem_map.mp ht
      obtain ⟨e', he', rfl⟩ := List.mem_map.mp he2
      intro _
      exact h1 (tag e') (List.mem_map_of_mem he') (.inl rfl)
    · have go : ∀ l : List Ent, ((frz l).map tag).Pairwise Apart := fun l => by
        induction l with
        | nil => exact .nil
        | cons x r ih =>
          refine List.pairwise_cons.mpr ⟨fun t ht => ?_, ih⟩
          obtain ⟨e2, he2, rfl⟩ := List.mem_map.mp ht
          obtain ⟨e', he', rfl⟩ := List.mem_map.mp he2
          intro z
          rcases z with z | z <;> cases z
      exact go _
  · rcases List.mem_cons.mp he with h | h
    · exact .inl (by rw [h])
    · obtain ⟨e', he', rfl⟩ := List.mem_map.mp h
      cases hm
theorem PvE.frz {E : List Ent} {v : V} {d : PyData} (h : PvE E v d) : PvE (frz E) v d := fun H2 k => h H2 fun e he => k (e.1, e.2.1, false) (List.mem_map_of_mem (f := fun e : Ent => (e.1, e.2.1, false)) he)
theorem softL_frz {E : List Ent} (h : softL E = true) : softL (frz E) = true := by
  refine List.all_eq_true.mpr fun e he => ?_
  obtain ⟨e', he', rfl⟩ := List.mem_map.mp he
  have h1 := (Bool.and_eq_true_iff.mp (List.all_eq_true.mp h e' he')).2
  exact Bool.and_eq_true_iff.mpr ⟨rfl, h1⟩
end AF
namespace K1
open PySem PySem.Spec PyProof.Rows L2 AF
open C8 (pe_gc)
open ST (Pr Ok sem Canon com gp early plus spr saB en sumc Ended)
def top (i : Nat) : Stmt := PySem.Challenge.pw_agedfiles_k05_stretches_refused.main.body.getD i (.Pass ⟨0, 0, 0, 0⟩)
abbrev s_wall : Stmt := top 0
theorem c_wall : FnScope ["k"] ["k"] (defScope s_wall) := ⟨rfl, rfl, rfl, by decide +kernel, rfl, by decide +kernel, by decide +kernel⟩
abbrev s_NoStretch___init__ : Stmt := inClass (top 3) 0
theorem c_NoStretch___init__ : FnScope ["self", "index"] ["self", "index"] (defScope s_NoStretch___init__) := ⟨rfl, rfl, rfl, by decide +kernel, rfl, by decide +kernel, by decide +kernel⟩
abbrev s_is_whole : Stmt := top 5
theorem c_is_whole : FnScope ["value"] ["value"] (defScope s_is_whole) := ⟨rfl, rfl, rfl, by decide +kernel, rfl, by decide +kernel, by decide +kernel⟩
abbrev s_is_count : Stmt := top 6
theorem c_is_count : FnScope ["value"] ["value"] (defScope s_is_count) := ⟨rfl, rfl, rfl, by decide +kernel, rfl, by decide +kernel, by decide +kernel⟩
abbrev s_Stretches___init__ : Stmt := inClass (top 8) 0
theorem c_Stretches___init__ : FnScope ["self", "pairs", "index", "pair"] ["self", "pairs"] (defScope s_Stretches___init__) := ⟨rfl, rfl, rfl, by decide +kernel, rfl, by decide +kernel, by decide +kernel⟩
abbrev s_Stretches_none : Stmt := inClass (top 8) 1
theorem c_Stretches_none : FnScope [] [] (defScope s_Stretches_none) := ⟨rfl, rfl, rfl, by decide +kernel, rfl, by decide +kernel, by decide +kernel⟩
abbrev s_Stretches_everything : Stmt := inClass (top 8) 2
theorem c_Stretches_everything : FnScope [] [] (defScope s_Stretches_everything) := ⟨rfl, rfl, rfl, by decide +kernel, rfl, by decide +kernel, by decide +kernel⟩
abbrev s_Stretches_one : Stmt := inClass (top 8) 3
theorem c_Stretches_one : FnScope ["n"] ["n"] (defScope s_Stretches_one) := ⟨rfl, rfl, rfl, by decide +kernel, rfl, by decide +kernel, by decide +kernel⟩
abbrev s_Stretches_pairs : Stmt := inClass (top 8) 4
theorem c_Stretches_pairs : FnScope ["self"] ["self"] (defScope s_Stretches_pairs) := ⟨rfl, rfl, rfl, by decide +kernel, rfl, by decide +kernel, by decide +kernel⟩
abbrev s_Stretches_spread : Stmt := inClass (top 8) 5
theorem c_Stretches_spread : FnScope ["self", "least", "most", "found", "low", "high"] ["self", "least", "most"] (defScope s_Stretches_spread) := ⟨rfl, rfl, rfl, by decide +kernel, rfl, by decide +kernel, by decide +kernel⟩
abbrev s_Stretches_below : Stmt := inClass (top 8) 6
theorem c_Stretches_below : FnScope ["self", "bound"] ["self", "bound"] (defScope s_Stretches_below) := ⟨rfl, rfl, rfl, by decide +kernel, rfl, by decide +kernel, by decide +kernel⟩
abbrev s_Stretches_least : Stmt := inClass (top 8) 7
theorem c_Stretches_least : FnScope ["self"] ["self"] (defScope s_Stretches_least) := ⟨rfl, rfl, rfl, by decide +kernel, rfl, by decide +kernel, by decide +kernel⟩
abbrev s_Stretches_greatest : Stmt := inClass (top 8) 8
theorem c_Stretches_greatest : FnScope ["self"] ["self"] (defScope s_Stretches_greatest) := ⟨rfl, rfl, rfl, by decide +kernel, rfl, by decide +kernel, by decide +kernel⟩
abbrev s_Stretches_has_end : Stmt := inClass (top 8) 9
theorem c_Stretches_has_end : FnScope ["self"] ["self"] (defScope s_Stretches_has_end) := ⟨rfl, rfl, rfl, by decide +kernel, rfl, by decide +kernel, by decide +kernel⟩
abbrev s_Stretches_count : Stmt := inClass (top 8) 10
theorem c_Stretches_count : FnScope ["self", "low", "high"] ["self"] (defScope s_Stretches_count) := ⟨rfl, rfl, rfl, by decide +kernel, rfl, by decide +kernel, by decide +kernel⟩
abbrev s_Stretches_numbers : Stmt := inClass (top 8) 11
theorem c_Stretches_numbers : FnScope ["self"] ["self"] (defScope s_Stretches_numbers) := ⟨rfl, rfl, rfl, by decide +kernel, rfl, by decide +kernel, by decide +kernel⟩
abbrev s_Stretches___contains__ : Stmt := inClass (top 8) 12
theorem c_Stretches___contains__ : FnScope ["self", "x", "low", "high"] ["self", "x"] (defScope s_Stretches___contains__) := ⟨rfl, rfl, rfl, by decide +kernel, rfl, by decide +kernel, by decide +kernel⟩
abbrev s_Stretches___and__ : Stmt := inClass (top 8) 13
theorem c_Stretches___and__ : FnScope ["self", "other", "found"] ["self", "other"] (defScope s_Stretches___and__) := ⟨rfl, rfl, rfl, by decide +kernel, rfl, by decide +kernel, by decide +kernel⟩
abbrev s_Stretches___or__ : Stmt := inClass (top 8) 14
theorem c_Stretches___or__ : FnScope ["self", "other", "found"] ["self", "other"] (defScope s_Stretches___or__) := ⟨rfl, rfl, rfl, by decide +kernel, rfl, by decide +kernel, by decide +kernel⟩
abbrev s_Stretches___sub__ : Stmt := inClass (top 8) 15
theorem c_Stretches___sub__ : FnScope ["self", "other", "found"] ["self", "other"] (defScope s_Stretches___sub__) := ⟨rfl, rfl, rfl, by decide +kernel, rfl, by decide +kernel, by decide +kernel⟩
abbrev s_Stretches___le__ : Stmt := inClass (top 8) 16
theorem c_Stretches___le__ : FnScope ["self", "other"] ["self", "other"] (defScope s_Stretches___le__) := ⟨rfl, rfl, rfl, by decide +kernel, rfl, by decide +kernel, by decide +kernel⟩
abbrev s_Stretches___add__ : Stmt := inClass (top 8) 17
theorem c_Stretches___add__ : FnScope ["self", "other"] ["self", "other"] (defScope s_Stretches___add__) := ⟨rfl, rfl, rfl, by decide +kernel, rfl, by decide +kernel, by decide +kernel⟩
abbrev s_Stretches___radd__ : Stmt := inClass (top 8) 18
theorem c_Stretches___radd__ : FnScope ["self", "other"] ["self", "other"] (defScope s_Stretches___radd__) := ⟨rfl, rfl, rfl, by decide +kernel, rfl, by decide +kernel, by decide +kernel⟩
abbrev s_Stretches___eq__ : Stmt := inClass (top 8) 19
theorem c_Stretches___eq__ : FnScope ["self", "other"] ["self", "other"] (defScope s_Stretches___eq__) := ⟨rfl, rfl, rfl, by decide +kernel, rfl, by decide +kernel, by decide +kernel⟩
abbrev s_Stretches___bool__ : Stmt := inClass (top 8) 20
theorem c_Stretches___bool__ : FnScope ["self"] ["self"] (defScope s_Stretches___bool__) := ⟨rfl, rfl, rfl, by decide +kernel, rfl, by decide +kernel, by decide +kernel⟩
abbrev s_is_pair : Stmt := top 9
theorem c_is_pair : FnScope ["value", "low", "high"] ["value"] (defScope s_is_pair) := ⟨rfl, rfl, rfl, by decide +kernel, rfl, by decide +kernel, by decide +kernel⟩
abbrev s_kept_of : Stmt := top 10
theorem c_kept_of : FnScope ["value"] ["value"] (defScope s_kept_of) := ⟨rfl, rfl, rfl, by decide +kernel, rfl, by decide +kernel, by decide +kernel⟩
abbrev s_merged : Stmt := top 11
theorem c_merged : FnScope ["pairs", "lows", "highs", "starts", "found", "at", "start", "goal", "k", "low", "high"] ["pairs"] (defScope s_merged) := ⟨rfl, rfl, rfl, by decide +kernel, rfl, by decide +kernel, by decide +kernel⟩
abbrev s_starts_anew : Stmt := top 12
theorem c_starts_anew : FnScope ["lows", "highs", "k"] ["lows", "highs", "k"] (defScope s_starts_anew) := ⟨rfl, rfl, rfl, by decide +kernel, rfl, by decide +kernel, by decide +kernel⟩
abbrev s_common : Stmt := top 13
theorem c_common : FnScope ["one", "other", "found", "at", "beside", "low", "high"] ["one", "other"] (defScope s_common) := ⟨rfl, rfl, rfl, by decide +kernel, rfl, by decide +kernel, by decide +kernel⟩
abbrev s_gaps : Stmt := top 14
theorem c_gaps : FnScope ["pairs", "found", "low", "start", "high"] ["pairs"] (defScope s_gaps) := ⟨rfl, rfl, rfl, by decide +kernel, rfl, by decide +kernel, by decide +kernel⟩
abbrev s_earlier_end : Stmt := top 15
theorem c_earlier_end : FnScope ["one", "other"] ["one", "other"] (defScope s_earlier_end) := ⟨rfl, rfl, rfl, by decide +kernel, rfl, by decide +kernel, by decide +kernel⟩
abbrev s_sum_of_ends : Stmt := top 16
theorem c_sum_of_ends : FnScope ["one", "other"] ["one", "other"] (defScope s_sum_of_ends) := ⟨rfl, rfl, rfl, by decide +kernel, rfl, by decide +kernel, by decide +kernel⟩
abbrev s_law_source : Stmt := top 18
theorem c_law_source : FnScope ["script", "turn", "cell", "number", "seed"] ["script", "turn"] (defScope s_law_source) := ⟨rfl, rfl, rfl, by decide +kernel, rfl, by decide +kernel, by decide +kernel⟩
abbrev s_law_draw : Stmt := top 19
theorem c_law_draw : FnScope ["source", "amount", "digit", "found"] ["source", "amount"] (defScope s_law_draw) := ⟨rfl, rfl, rfl, by decide +kernel, rfl, by decide +kernel, by decide +kernel⟩
abbrev s_law_pick : Stmt := top 20
theorem c_law_pick : FnScope ["source", "items"] ["source", "items"] (defScope s_law_pick) := ⟨rfl, rfl, rfl, by decide +kernel, rfl, by decide +kernel, by decide +kernel⟩
abbrev s_law_refused : Stmt := top 21
theorem c_law_refused : FnScope ["call", "found", "e"] ["call"] (defScope s_law_refused) := ⟨rfl, rfl, rfl, by decide +kernel, rfl, by decide +kernel, by decide +kernel⟩
abbrev s_law_of : Stmt := top 22
theorem c_law_of : FnScope ["pairs"] ["pairs"] (defScope s_law_of) := ⟨rfl, rfl, rfl, by decide +kernel, rfl, by decide +kernel, by decide +kernel⟩
abbrev s_law : Stmt := top 23
theorem c_law : FnScope ["script", "turn", "pairs", "at", "calls", "call", "more", "later", "least", "most", "odd", "sets", "source", "step", "wrong", "low"] ["script"] (defScope s_law) := ⟨rfl, rfl, rfl, by decide +kernel, rfl, by decide +kernel, by decide +kernel⟩
local macro_rules | `(tactic| purse 7003 => fail) => `(tactic| k_dflt (refine Sh.has_ (by assumption) ?_; repeat (first | exact On.here | apply On.next)))
local macro_rules | `(tactic| purse 7004 => fail) => `(tactic| k_dflt (repeat (first | exact On.here | apply On.next)))
local macro_rules | `(tactic| purse 7005 => fail) => `(tactic| (repeat (first | exact Rep.here | apply Rep.next)))
local macro_rules | `(tactic| purse 7006 => fail) => `(tactic| (exact Sh.out (by assumption) (fun b h => by simp [h])))
local macro_rules | `(tactic| purse 7007 => fail) => `(tactic| k_dflt (first | ((with_reducible refine cdivw ?_ ?_) <;> omega) | ((with_reducible show CDiv _ _); constructor <;> omega) | ((with_reducible show CMul _ _); (first | (left; constructor <;> omega) | (right; constructor <;> omega))) | (show (0 : Int) < _; omega)))
local macro_rules | `(tactic| purse 7008 => fail) => `(tactic| first | exact Kd.int _ | exact Kd.bl _ | exact Kd.non | exact Kd.str _ | exact Kd.ins (by (purse 7003 => fail)) | exact Kd.lst (by (purse 7003 => fail)) | exact Kd.tup (by (purse 7003 => fail)))
local macro_rules | `(tactic| purse 7009 => fail) => `(tactic| first | exact DpAll.nil | (apply DpAll.cons; (purse 7010 => fail); (purse 7009 => fail)))
local macro_rules | `(tactic| purse 7010 => fail) => `(tactic| first | exact Dp.int _ | exact Dp.bl _ | exact Dp.non | exact Dp.str _ | (refine dp_int ?_; omega) | (refine dp_bl ?_; simp only [decide_eq_decide]; omega) | (apply dp_lst; (purse 7003 => fail); (purse 7009 => fail)) | (apply dp_tup; (purse 7003 => fail); (purse 7009 => fail)))
local macro_rules | `(tactic| purse 7011 => fail) => `(tactic| first | assumption | omega)
local macro_rules | `(tactic| purse 7001 => fail) => `(tactic| fail "no use")
local macro_rules | `(tactic| purse 7002 => fail) => `(tactic| first
  | (with_reducible refine set_go ?_)
  | (with_reducible refine Step.go ?_)
  | (with_reducible first | refine g_pow10_6 ?_ | refine g_pow10_7 ?_ | refine g_pow10_18 ?_ | refine g_pow10_29 ?_ | refine g_pow10_30 ?_)
  | ((with_reducible refine' g_I ?a0 ?_); (case a0 => (purse 7007 => fail)))
  | ((with_reducible refine' g_ixL ?a0 ?a1 ?_); (case a0 => (purse 7003 => fail)); (case a1 => k_dflt (exact rfl)))
  | ((with_reducible refine' g_kfld ?a0 ?a1 ?a2 ?a3 ?_); (case a0 => (purse 7003 => fail)); (case a1 => k_dflt (assumption)); (case a2 => k_dflt (assumption)); (case a3 => k_dflt (exact rfl)))
  | ((with_reducible refine' g_kprop ?a0 ?_); (case a0 => (purse 7003 => fail)))
  | ((with_reducible refine' g_kmeth ?a0 ?a1 ?_); (case a0 => (purse 7003 => fail)); (case a1 => k_dflt (exact rfl)))
  | ((with_reducible refine' g_own ?a0 ?a1 ?a2 ?_); (case a0 => (purse 7003 => fail)); (case a1 => (purse 7008 => fail)); (case a2 => k_dflt (assumption)))
  | ((with_reducible refine' g_cmp ?a0 ?a1 ?a2 ?_); (case a0 => (purse 7003 => fail)); (case a1 => (purse 7008 => fail)); (case a2 => k_dflt (assumption)))
  | ((with_reducible refine' g_neq ?a0 ?a1 ?a2 ?_); (case a0 => (purse 7003 => fail)); (case a1 => (purse 7008 => fail)); (case a2 => k_dflt (assumption)))
  | ((with_reducible refine' g_right ?a0 ?_); (case a0 => (purse 7003 => fail)))
  | ((with_reducible refine' use_draw ?a0 ?a1 ?a2 ?a3 ?a4 ?_); (case a0 => assumption); (case a1 => intro _ _; (purse 7005 => fail)); (case a2 => assumption); (case a3 => (purse 7011 => fail)); (case a4 => (purse 7011 => fail)); intro _ _ _ _ _ _ _ _)
  | ((with_reducible refine' use_giveI ?a0 ?a1 ?a2 ?_); (case a0 => assumption); (case a1 => intro _ _; (purse 7005 => fail)); (case a2 => assumption); intro _ _ _ _ _ _ _ _)
  | ((with_reducible refine' use_source ?a0 ?a1 ?_); (case a0 => assumption); (case a1 => k_dflt (assumption)); intro _ _ _ _ _ _)
  | (with_reducible refine g_absN ?_; intro _ _)
  | (with_reducible refine g_maxN ?_; intro _ _ _ _)
  | (with_reducible refine g_minN ?_; intro _ _ _ _)
  | ((with_reducible refine' g_kR1 ?a0 ?a1 ?_); (case a0 => omega); (case a1 => omega))
  | ((with_reducible refine' g_neD ?a0 ?a1 ?a2 ?_); (case a0 => (purse 7010 => fail)); (case a1 => (purse 7010 => fail)); (case a2 => k_dflt (rfl)))
  | ((with_reducible refine' g_eqD ?a0 ?a1 ?a2 ?_); (case a0 => (purse 7010 => fail)); (case a1 => (purse 7010 => fail)); (case a2 => k_dflt (rfl)))
  | ((with_reducible refine' g_klst ?a0 ?a1 ?_); (case a0 => assumption); (case a1 => k_dflt (exact rfl)); intro _ _ _ _)
  | ((with_reducible refine' g_ktup ?a0 ?a1 ?_); (case a0 => assumption); (case a1 => k_dflt (exact rfl)); intro _ _ _ _)
  | ((with_reducible refine' g_setL ?a0 ?a1 ?a2 ?_); (case a0 => assumption); (case a1 => (purse 7005 => fail)); (case a2 => k_dflt (exact rfl)); intro _ _)
  | ((with_reducible refine' g_unl3 ?a0 ?_); (case a0 => (purse 7003 => fail)))
  | (purse 7001 => fail))
local macro_rules | `(tactic| purse 7012 => fail) => `(tactic| ((try (with_reducible refine start_go ?_)); repeat (purse 7002 => fail)))
local macro_rules | `(tactic| purse 7013 => fail) => `(tactic| first | rfl | (refine decide_eq_true ?_; omega) | (simp only [Bool.not_eq_true', Bool.not_eq_false', decide_eq_false_iff_not, decide_eq_true_eq, Bool.not_not, decide_eq_decide]; done) | (simp only [Bool.not_eq_true', Bool.not_eq_false', decide_eq_false_iff_not, decide_eq_true_eq, Bool.not_not, decide_eq_decide]; omega))
local macro_rules | `(tactic| purse 7014 => fail) => `(tactic| first | rfl | (refine decide_eq_false ?_; omega) | (simp only [Bool.not_eq_true', Bool.not_eq_false', decide_eq_false_iff_not, decide_eq_true_eq, Bool.not_not, decide_eq_decide]; done) | (simp only [Bool.not_eq_true', Bool.not_eq_false', decide_eq_false_iff_not, decide_eq_true_eq, Bool.not_not, decide_eq_decide]; omega))
local macro_rules | `(tactic| purse 7015 => fail) => `(tactic| ((refine g_yes ?h ?_); (case h => (purse 7013 => fail))))
local macro_rules | `(tactic| purse 7016 => fail) => `(tactic| ((refine g_no ?h ?_); (case h => (purse 7014 => fail))))
local macro_rules | `(tactic| purse 7017 => fail) => `(tactic| first | (purse 7015 => fail) | (purse 7016 => fail))
local macro_rules | `(tactic| purse 7018 => fail) => `(tactic| repeat ((purse 7012 => fail); (purse 7017 => fail)))
local macro_rules | `(tactic| purse 7019 => fail) => `(tactic| repeat (first | exact intIn_nil | refine intIn_cons (by omega) (by omega) ?_))
local macro_rules | `(tactic| purse 7020 => fail) => `(tactic| (simp only [List.length_cons, List.length_nil]; omega))
local macro_rules | `(tactic| purse 7021 => fail) => `(tactic| (refine g_two (fun c => ?_) (fun c => ?_) <;> first | (have c := of_decide_eq_true c) | (have c := of_decide_eq_false c) | skip))
local macro_rules | `(tactic| purse 7022 => fail) => `(tactic| ((purse 7018 => fail); (purse 7012 => fail); try ((purse 7021 => fail) <;> (purse 7022 => fail))))

/-! sets of counts: the plain defs -/
open He in
structure TQ (K : PySem.W.Frag) (w : World) (mg : Str → Option Value) : Prop where
  g_Stretches : mg "Stretches" = some (.ref (ga K "Stretches"))
  g_is_whole : mg "is_whole" = some (.ref (ga K "is_whole"))
  g_is_count : mg "is_count" = some (.ref (ga K "is_count"))
  g_is_pair : mg "is_pair" = some (.ref (ga K "is_pair"))
  g_kept_of : mg "kept_of" = some (.ref (ga K "kept_of"))
  g_merged : mg "merged" = some (.ref (ga K "merged"))
  g_starts_anew : mg "starts_anew" = some (.ref (ga K "starts_anew"))
  g_common : mg "common" = some (.ref (ga K "common"))
  g_gaps : mg "gaps" = some (.ref (ga K "gaps"))
  g_earlier_end : mg "earlier_end" = some (.ref (ga K "earlier_end"))
  g_sum_of_ends : mg "sum_of_ends" = some (.ref (ga K "sum_of_ends"))
  z_isinstance : mg "isinstance" = none
  z_int : mg "int" = none
  z_bool : mg "bool" = none
  z_tuple : mg "tuple" = none
  z_len : mg "len" = none
  z_sorted : mg "sorted" = none
  z_enumerate : mg "enumerate" = none
  z_range : mg "range" = none
  z_max : mg "max" = none
  z_min : mg "min" = none
  z_sum : mg "sum" = none
  cl : Cls K (ga K "Stretches")
  nK : NoAttr K (ga K "Stretches") "kept"
  ic : C8.InsC K (ga K "Stretches")
def spWhole : Sp := fun vs H Q _ => ∃ n : Int, vs = [.int n] ∧ Q (.bl true) H
def spCnt : Sp := fun vs H Q _ => ∃ n : Int, vs = [.int n] ∧ Q (.bl (decide (0 ≤ n))) H
def spPair : Sp := fun vs H Q _ => ∃ (q : Addr) (p : Pr), vs = [.ref q] ∧ H q = some (.tup [.int p.1, ov p.2]) ∧ Ok p ∧ Q (.bl true) H
def spKept (C : Addr) : Sp := fun vs H Q _ => ∃ x dx t, vs = [.ref x] ∧ H x = some (.ins C dx (kp t)) ∧ Q (.ref t) H
def spEarly : Sp := fun vs H Q _ => ∃ a b : Option Int, vs = [ov a, ov b] ∧ Q (ov (early a b)) H
def spSumE : Sp := fun vs H Q _ => ∃ a b : Option Int, vs = [ov a, ov b] ∧ Q (ov (plus a b)) H
def spAnew : Sp := fun vs H Q _ => ∃ (a b : Addr) (L Hs : List Int) (k : Nat), vs = [.ref a, .ref b, .int k] ∧ H a = some (.lst (L.map V.int)) ∧ H b = some (.lst (Hs.map V.int)) ∧ k < L.length ∧ Q (.bl (saB L Hs k)) H
section
open He
variable {P : Program} {w : World} {K : PySem.W.Frag} {mg : Str → Option Value} {base : Heap} {f : Addr} {fd : FuncData}
abbrev FnP (K : PySem.W.Frag) (x q : Str) (st : Stmt) (f : Addr) (fd : FuncData) : Prop := FunD K x q (defArgs st) (defBody st) (defScope st) [] [] f fd
theorem ok_whole (F : FnP K "is_whole" "is_whole" s_is_whole f fd) (T : TQ K w mg) : FnOk P w K mg base (L2.CX P w) 2 f fd ["value"] spWhole := by
  refine F.ok c_is_whole (fun vs H Q E h => ?_) (fun cdv A outer s H vs Q E hr h => ⟨_, pss_one (ps_ret (pe_and (pe_callB call_isi (by rfl) T.z_isinstance (by decide +kernel) (pa_cons (pv 0) (pa_cons (pe_bltn (v := .ty "int") rfl T.z_int (by decide +kernel) rfl) (pa_nil)))) (pe_one (pe_not (pe_callB call_isi (by rfl) T.z_isinstance (by decide +kernel) (pa_cons (pv 0) (pa_cons (pe_bltn (v := .ty "bool") rfl T.z_bool (by decide +kernel) rfl) (pa_nil)))))))), ?_⟩)
  · obtain ⟨n, rfl, _⟩ := h
    rfl
  · obtain ⟨n, rfl, k⟩ := h
    (purse 7012 => fail)
    refine g_isi (.ty "int") (.base (.int n)) (kit_ty (b := "int") (r := true) (by decide +kernel)) ?_
    (purse 7012 => fail)
    (purse 7015 => fail)
    (purse 7012 => fail)
    refine g_isi (.ty "bool") (.base (.int n)) (kit_ty (b := "bool") (r := false) (by decide +kernel)) ?_
    (purse 7012 => fail)
    exact k
theorem ok_cnt (F : FnP K "is_count" "is_count" s_is_count f fd) (T : TQ K w mg) (D_is_whole : Dn P w K mg base 2 (ga K "is_whole") ["value"] spWhole) : FnOk P w K mg base (L2.CX P w) 4 f fd ["value"] spCnt := by
  refine F.ok c_is_count (fun vs H Q E h => ?_) (fun cdv A outer s H vs Q E hr h => ⟨_, pss_one (ps_ret (pe_and (pe_dn D_is_whole (rm hr) rfl T.g_is_whole (passes_call (takes_of rfl rfl rfl rfl) fun _ _ _ _ h => h) (pa_cons (pv 0) (pa_nil))) (pe_one (pe_cmpR op_ge (pv 0) (pe_int) (nomark _))))), ?_⟩)
  · obtain ⟨n, rfl, _⟩ := h
    rfl
  · obtain ⟨n, rfl, k⟩ := h
    (purse 7012 => fail)
    refine ⟨n, rfl, ?_⟩
    (purse 7012 => fail)
    (purse 7015 => fail)
    (purse 7012 => fail)
    exact k
theorem ok_pair (F : FnP K "is_pair" "is_pair" s_is_pair f fd) (T : TQ K w mg) (D_is_count : Dn P w K mg base 4 (ga K "is_count") ["value"] spCnt) : FnOk P w K mg base (L2.CX P w) 6 f fd ["value"] spPair := by
  refine F.ok c_is_pair (fun vs H Q E h => ?_) (fun cdv A outer s H vs Q E hr h => ⟨_, pss_cons (ps_if (PW.pt (pw_or (pt_not (pt_val (pe_callB call_isi (by rfl) T.z_isinstance (by decide +kernel) (pa_cons (pv 0) (pa_cons (pe_bltn (v := .ty "tuple") rfl T.z_tuple (by decide +kernel) rfl) (pa_nil)))))) (pw_or1 (pt_cmpR op_ne (pe_callB cl_len (by rfl) T.z_len (by decide +kernel) (pa_cons (pv 0) (pa_nil))) (pe_int) (nomark _)))))
      (pss_one (ps_ret (pe_bl)))
      (pss_nil))
      (pss_cons (ps_asg (pv 0) (pg_tup (n := 2) rfl (pgs_cons (pg_name (i := 1) c_is_pair.nd rfl (Or.inl rfl)) (pgs_cons (pg_name (i := 2) c_is_pair.nd rfl (Or.inl rfl)) (pgs_nil)))))
      (pss_one (ps_ret (pe_and (pe_dn D_is_count (rm hr) rfl T.g_is_count (passes_call (takes_of rfl rfl rfl rfl) fun _ _ _ _ h => h) (pa_cons (pv 1) (pa_nil))) (pe_one (pe_or (pe_cmpR op_isN (pv 2) (pe_non) (nomark _)) (pe_one (pe_and (pe_dn D_is_count (rm hr) rfl T.g_is_count (passes_call (takes_of rfl rfl rfl rfl) fun _ _ _ _ h => h) (pa_cons (pv 2) (pa_nil))) (pe_one (pe_cmpR op_le (pv 1) (pv 2) (nomark _))))))))))), ?_⟩)
  · obtain ⟨q, p, rfl, _⟩ := h
    rfl
  · obtain ⟨q, ⟨lo, hi⟩, rfl, hq, ⟨h0, h1⟩, k⟩ := h
    (purse 7012 => fail)
    refine g_isi (.ty "tuple") (.base (.tup hq)) (kit_ty (b := "tuple") (r := true) (by decide +kernel)) ?_
    (purse 7012 => fail)
    (purse 7016 => fail)
    (purse 7012 => fail)
    refine g_lent hq ?_
    (purse 7012 => fail)
    (purse 7016 => fail)
    (purse 7012 => fail)
    refine g_un2 (K := K) hq ?_
    (purse 7012 => fail)
    refine ⟨lo, rfl, ?_⟩
    (purse 7012 => fail)
    (purse 7015 => fail)
    (purse 7012 => fail)
    refine ⟨rfl, ?_⟩
    cases hi with
    | none =>
      (purse 7012 => fail)
      (purse 7015 => fail)
      (purse 7012 => fail)
      exact k
    | some u =>
      have h2 := h1 u rfl
      rw [show ov (some u) = V.int u from rfl]
      (purse 7012 => fail)
      (purse 7016 => fail)
      (purse 7012 => fail)
      refine ⟨u, rfl, ?_⟩
      (purse 7012 => fail)
      (purse 7015 => fail)
      (purse 7012 => fail)
      rw [decide_eq_true h2]
      exact k
theorem ok_kept (F : FnP K "kept_of" "kept_of" s_kept_of f fd) (T : TQ K w mg) : FnOk P w K mg base (L2.CX P w) 2 f fd ["value"] (spKept (ga K "Stretches")) := by
  refine F.ok c_kept_of (fun vs H Q E h => ?_) (fun cdv A outer s H vs Q E hr h => ⟨_, pss_cons (ps_if (pt_not (pt_val (pe_callB call_isi (by rfl) T.z_isinstance (by decide +kernel) (pa_cons (pv 0) (pa_cons (pe_glob (v := .ref _) rfl T.g_Stretches rfl) (pa_nil))))))
      (pss_one (ps_never))
      (pss_nil))
      (pss_one (ps_ret (pe_fld (pv 0) rfl))), ?_⟩)
  · obtain ⟨x, dx, t, rfl, _⟩ := h
    rfl
  · obtain ⟨x, dx, t, rfl, hx, k⟩ := h
    (purse 7012 => fail)
    refine g_isi (.own _) (.base (.ins hx T.ic.cl T.ic.ha T.ic.hn T.ic.htk T.ic.hm)) T.ic.me ?_
    (purse 7012 => fail)
    (purse 7016 => fail)
    (purse 7012 => fail)
    refine g_kfld (K := K) hx T.cl T.nK rfl ?_
    exact k
theorem ok_early (F : FnP K "earlier_end" "earlier_end" s_earlier_end f fd) (T : TQ K w mg) : FnOk P w K mg base (L2.CX P w) 2 f fd ["one", "other"] spEarly := by
  refine F.ok c_earlier_end (fun vs H Q E h => ?_) (fun cdv A outer s H vs Q E hr h => ⟨_, pss_cons (ps_if (pt_cmpR op_isN (pv 0) (pe_non) (nomark _))
      (pss_one (ps_ret (pv 1)))
      (pss_nil))
      (pss_cons (ps_if (pt_cmpR op_isN (pv 1) (pe_non) (nomark _))
      (pss_one (ps_ret (pv 0)))
      (pss_nil))
      (pss_one (ps_ret (pe_callB (cl_min rfl) (by rfl) T.z_min (by decide +kernel) (pa_cons (pe_callTy cl_int (by rfl) T.z_int (by decide +kernel) (pa_cons (pv 0) (pa_nil))) (pa_cons (pv 1) (pa_nil))))))), ?_⟩)
  · obtain ⟨a, b, rfl, _⟩ := h
    rfl
  · obtain ⟨a, b, rfl, k⟩ := h
    (purse 7012 => fail)
    refine ⟨rfl, ?_⟩
    cases a with
    | none =>
      (purse 7012 => fail)
      (purse 7015 => fail)
      (purse 7012 => fail)
      exact k
    | some i =>
      rw [show ov (some i) = V.int i from rfl]
      (purse 7012 => fail)
      (purse 7016 => fail)
      (purse 7012 => fail)
      refine ⟨rfl, ?_⟩
      cases b with
      | none =>
        (purse 7012 => fail)
        (purse 7015 => fail)
        (purse 7012 => fail)
        exact k
      | some j =>
        rw [show ov (some j) = V.int j from rfl]
        (purse 7012 => fail)
        (purse 7016 => fail)
        (purse 7012 => fail)
        rename_i z e1 e2 e3
        have e : z = min i j := by omega
        subst e
        exact k
theorem ok_sume (F : FnP K "sum_of_ends" "sum_of_ends" s_sum_of_ends f fd) (T : TQ K w mg) : FnOk P w K mg base (L2.CX P w) 2 f fd ["one", "other"] spSumE := by
  refine F.ok c_sum_of_ends (fun vs H Q E h => ?_) (fun cdv A outer s H vs Q E hr h => ⟨_, pss_cons (ps_if (PW.pt (pw_or (pt_cmpR op_isN (pv 0) (pe_non) (nomark _)) (pw_or1 (pt_cmpR op_isN (pv 1) (pe_non) (nomark _)))))
      (pss_one (ps_ret (pe_non)))
      (pss_nil))
      (pss_one (ps_ret (pe_op op_add (pv 0) (pv 1)))), ?_⟩)
  · obtain ⟨a, b, rfl, _⟩ := h
    rfl
  · obtain ⟨a, b, rfl, k⟩ := h
    (purse 7012 => fail)
    refine ⟨rfl, ?_⟩
    cases a with
    | none =>
      (purse 7012 => fail)
      (purse 7015 => fail)
      (purse 7012 => fail)
      exact k
    | some i =>
      rw [show ov (some i) = V.int i from rfl]
      (purse 7012 => fail)
      (purse 7016 => fail)
      (purse 7012 => fail)
      refine ⟨rfl, ?_⟩
      cases b with
      | none =>
        (purse 7012 => fail)
        (purse 7015 => fail)
        (purse 7012 => fail)
        exact k
      | some j =>
        rw [show ov (some j) = V.int j from rfl]
        (purse 7012 => fail)
        (purse 7016 => fail)
        (purse 7012 => fail)
        exact k
theorem ok_anew (F : FnP K "starts_anew" "starts_anew" s_starts_anew f fd) (T : TQ K w mg) : FnOk P w K mg base (L2.CX P w) 2 f fd ["lows", "highs", "k"] spAnew := by
  refine F.ok c_starts_anew (fun vs H Q E h => ?_) (fun cdv A outer s H vs Q E hr h => ⟨_, pss_one (ps_ret (pe_or (pe_cmpR op_eq (pv 2) (pe_int) (nomark _)) (pe_one (pe_and (pe_cmpR op_le (pv 2) (pe_callB cl_len (by rfl) T.z_len (by decide +kernel) (pa_cons (pv 1) (pa_nil))) (nomark _)) (pe_one (pe_cmpR op_lt (pe_op op_add (pe_ix ix_list (pv 1) (pe_op op_sub (pv 2) (pe_int)) (fun _ _ => rfl)) (pe_int)) (pe_ix ix_list (pv 0) (pv 2) (fun _ _ => rfl)) (nomark _))))))), ?_⟩)
  · obtain ⟨a, b, L, Hs, k, rfl, _⟩ := h
    rfl
  · obtain ⟨a, b, L, Hs, k, rfl, ha, hb, hk, w⟩ := h
    (purse 7012 => fail)
    cases k with
    | zero =>
      (purse 7015 => fail)
      exact w
    | succ k =>
      rw [show decide (((k + 1 : Nat) : Int) = 0) = false from decide_eq_false (by omega)]
      (purse 7016 => fail)
      (purse 7012 => fail)
      refine g_lenl hb ?_
      (purse 7012 => fail)
      by_cases hh : k + 1 ≤ Hs.length
      · rw [show decide (((k + 1 : Nat) : Int) ≤ ((List.map V.int Hs).length : Nat)) = true from decide_eq_true (by rw [List.length_map]; omega)]
        (purse 7015 => fail)
        (purse 7012 => fail)
        refine g_ixL hb (v := .int (Hs.getD k 0)) ?_ ?_
        · rw [show ((k + 1 : Nat) : Int) - 1 = (k : Nat) by omega]
          exact atI_nat (by rw [List.getElem?_map, List.getD_eq_getElem?_getD, List.getElem?_eq_getElem (by omega)]; rfl)
        (purse 7012 => fail)
        refine g_ixL ha (v := .int (L.getD (k + 1) 0)) ?_ ?_
        · exact atI_nat (by rw [List.getElem?_map, List.getD_eq_getElem?_getD, List.getElem?_eq_getElem hk]; rfl)
        (purse 7012 => fail)
        have e : saB L Hs (k + 1) = decide (Hs.getD k 0 + 1 < L.getD (k + 1) 0) := by
          unfold saB
          rw [show decide (k + 1 = 0) = false from decide_eq_false (by omega), show decide (k + 1 ≤ Hs.length) = true from decide_eq_true hh, Bool.false_or, Bool.true_and]
          rfl
        rw [← e]
        exact w
      · rw [show decide (((k + 1 : Nat) : Int) ≤ ((List.map V.int Hs).length : Nat)) = false from decide_eq_false (by rw [List.length_map]; omega)]
        (purse 7016 => fail)
        have e : saB L Hs (k + 1) = false := by
          unfold saB
          rw [show decide (k + 1 = 0) = false from decide_eq_false (by omega), show decide (k + 1 ≤ Hs.length) = false from decide_eq_false hh, Bool.false_or, Bool.false_and]
        rw [← e]
        exact w
end

/-! whole numbers of any data -/
def wholeB : PyData → Bool
  | .int _ => true
  | _ => false
def spWholeD : Sp := fun vs H Q _ => ∃ v d, vs = [v] ∧ Pv H v d ∧ Q (.bl (wholeB d)) H
theorem kit_int : ∀ d : PyData, kitB (tyN d) "int" = some (match d with | .int _ => true | .bool _ => true | _ => false)
  | .none => (by decide +kernel : kitB "NoneType" "int" = some false)
  | .bool _ => (by decide +kernel : kitB "bool" "int" = some true)
  | .int _ => (by decide +kernel : kitB "int" "int" = some true)
  | .str _ => (by decide +kernel : kitB "str" "int" = some false)
  | .list _ => (by decide +kernel : kitB "list" "int" = some false)
  | .tuple _ => (by decide +kernel : kitB "tuple" "int" = some false)
  | .dict _ => (by decide +kernel : kitB "dict" "int" = some false)
theorem kit_bool : ∀ d : PyData, kitB (tyN d) "bool" = some (match d with | .bool _ => true | _ => false)
  | .none => (by decide +kernel : kitB "NoneType" "bool" = some false)
  | .bool _ => (by decide +kernel : kitB "bool" "bool" = some true)
  | .int _ => (by decide +kernel : kitB "int" "bool" = some false)
  | .str _ => (by decide +kernel : kitB "str" "bool" = some false)
  | .list _ => (by decide +kernel : kitB "list" "bool" = some false)
  | .tuple _ => (by decide +kernel : kitB "tuple" "bool" = some false)
  | .dict _ => (by decide +kernel : kitB "dict" "bool" = some false)
theorem kit_tuple : ∀ d : PyData, kitB (tyN d) "tuple" = some (match d with | .tuple _ => true | _ => false)
  | .none => (by decide +kernel : kitB "NoneType" "tuple" = some false)
  | .bool _ => (by decide +kernel : kitB "bool" "tuple" = some false)
  | .int _ => (by decide +kernel : kitB "int" "tuple" = some false)
  | .str _ => (by decide +kernel : kitB "str" "tuple" = some false)
  | .list _ => (by decide +kernel : kitB "list" "tuple" = some false)
  | .tuple _ => (by decide +kernel : kitB "tuple" "tuple" = some true)
  | .dict _ => (by decide +kernel : kitB "dict" "tuple" = some false)
theorem use_wholeD {H : Hp} {v : V} {d : PyData} {Q : VK} {E : XK} (h : Pv H v d) (q : Q (.bl (wholeB d)) H) : spWholeD [v] H Q E := ⟨v, d, rfl, h, q⟩
section
open He
variable {P : Program} {w : World} {K : PySem.W.Frag} {mg : Str → Option Value} {base : Heap} {f : Addr} {fd : FuncData}
theorem ok_wholeD (F : FnP K "is_whole" "is_whole" s_is_whole f fd) (T : TQ K w mg) : FnOk P w K mg base (L2.CX P w) 2 f fd ["value"] spWholeD := by
  refine F.ok c_is_whole (fun vs H Q E h => ?_) (fun cdv A outer s H vs Q E hr h => ⟨_, pss_one (ps_ret (pe_and (pe_callB call_isi (by rfl) T.z_isinstance (by decide +kernel) (pa_cons (pv 0) (pa_cons (pe_bltn (v := .ty "int") rfl T.z_int (by decide +kernel) rfl) (pa_nil)))) (pe_one (pe_not (pe_callB call_isi (by rfl) T.z_isinstance (by decide +kernel) (pa_cons (pv 0) (pa_cons (pe_bltn (v := .ty "bool") rfl T.z_bool (by decide +kernel) rfl) (pa_nil)))))))), ?_⟩)
  · obtain ⟨v, d, rfl, _⟩ := h
    rfl
  · obtain ⟨v, d, rfl, hp, k⟩ := h
    (purse 7012 => fail)
    refine g_isP hp (kit_int d) ?_
    (purse 7012 => fail)
    cases d with
    | int n =>
      (purse 7015 => fail)
      (purse 7012 => fail)
      refine g_isP hp (kit_bool _) ?_
      (purse 7012 => fail)
      exact k
    | bool b =>
      (purse 7015 => fail)
      (purse 7012 => fail)
      refine g_isP hp (kit_bool _) ?_
      (purse 7012 => fail)
      exact k
    | _ => exact iteF k
end
/-! counts and pairs of any data; errors -/
def countB : PyData → Bool
  | .int n => decide (0 ≤ n)
  | _ => false
def pairB : PyData → Bool
  | .tuple [.int n, .none] => decide (0 ≤ n)
  | .tuple [.int n, .int m] => decide (0 ≤ n) && (decide (0 ≤ m) && decide (n ≤ m))
  | _ => false
def spCntD : Sp := fun vs H Q _ => ∃ v d, vs = [v] ∧ Pv H v d ∧ Q (.bl (countB d)) H
def spPairD : Sp := fun vs H Q _ => ∃ v d, vs = [v] ∧ Pv H v d ∧ Q (.bl (pairB d)) H
def spKeptE (C : Addr) : Sp := fun vs H _ E => ∃ v d, vs = [v] ∧ Pv H v d ∧ Err C "index" .non H E
/-- the first one that is no pair stands at i -/
def Bad (ds : List PyData) (i : Nat) : Prop := (∀ j d, j < i → ds[j]? = some d → pairB d = true) ∧ ∃ d, ds[i]? = some d ∧ pairB d = false
def spMkE (C C2 : Addr) : Sp := fun vs H _ E => ∃ (x dx t : Addr) (ws : List V) (ds : List PyData) (i : Nat), vs = [.ref x, .ref t] ∧ H x = some (.ins C dx []) ∧ H t = some (.tup ws) ∧ PvAll H ws ds ∧ Bad ds i ∧ Err C2 "index" (.int (i : Nat)) H E
open He in
structure TQE (K : PySem.W.Frag) (w : World) (mg : Str → Option Value) : Prop extends TQ K w mg where
  g_NoStretch : mg "NoStretch" = some (.ref (ga K "NoStretch"))
  kSt : ∀ t ∈ (["NoneType", "bool", "int", "str", "list", "tuple", "dict"] : List String), PySem.W.kitOne K (.type t) (.ref (ga K "Stretches")) = some false
theorem tyN_mem (d : PyData) : tyN d ∈ (["NoneType", "bool", "int", "str", "list", "tuple", "dict"] : List String) := by
  cases d <;> simp only [tyN, List.mem_cons, true_or, or_true]
theorem _root_.AF.Err.up {C : Addr} {f : Str} {v : V} {H H' : Hp} {E : XK} (k : Err C f v H E) (u : Up H H') : Err C f v H' E := fun d H2 hn c hx => k d H2 (by
  cases e : H d with
  | none => rfl
  | some o => have := u _ _ e; rw [hn] at this; cases this) (fun b o e n => c b o (u _ _ e) n) hx
theorem pva_get {H : Hp} : ∀ {ws : List V} {ds : List PyData}, PvAll H ws ds → ∀ {i : Nat} {v : V}, ws[i]? = some v → ∃ d, ds[i]? = some d ∧ Pv H v d
  | _, _, .cons (d := d) h r, 0, v, e => by cases e; exact ⟨d, rfl, h⟩
  | _, _, .cons h r, i + 1, v, e => pva_get r e
theorem pva_len {H : Hp} : ∀ {ws : List V} {ds : List PyData}, PvAll H ws ds → ds.length = ws.length
  | _, _, .nil => rfl
  | _, _, .cons h r => by simp only [List.length_cons, pva_len r]
theorem _root_.AF.Pv.up {H H' : Hp} {v : V} {d : PyData} (h : Pv H v d) (u : Up H H') : Pv H' v d := h.ch (fun b o e _ => u b o e)
theorem pair_0 : pairB (.tuple []) = false := rfl
theorem pair_1 {a : PyData} : pairB (.tuple [a]) = false := by cases a <;> rfl
theorem pair_3 {a b c : PyData} {r : List PyData} : pairB (.tuple (a :: b :: c :: r)) = false := by cases a <;> cases b <;> rfl
theorem pair_no {a b : PyData} (h : countB a = false) : pairB (.tuple [a, b]) = false := by
  cases a with
  | int n =>
    have h' : decide (0 ≤ n) = false := h
    cases b with
    | none => exact h'
    | int m => show (decide (0 ≤ n) && _) = false; rw [h', Bool.false_and]
    | _ => rfl
  | _ => cases b <;> rfl
section
open He
variable {P : Program} {w : World} {K : PySem.W.Frag} {mg : Str → Option Value} {base : Heap} {f : Addr} {fd : FuncData}
theorem ok_cntD (F : FnP K "is_count" "is_count" s_is_count f fd) (T : TQ K w mg) (D_is_whole : Dn P w K mg base 2 (ga K "is_whole") ["value"] spWholeD) : FnOk P w K mg base (L2.CX P w) 4 f fd ["value"] spCntD := by
  refine F.ok c_is_count (fun vs H Q E h => ?_) (fun cdv A outer s H vs Q E hr h => ⟨_, pss_one (ps_ret (pe_and (pe_dn D_is_whole (rm hr) rfl T.g_is_whole (passes_call (takes_of rfl rfl rfl rfl) fun _ _ _ _ h => h) (pa_cons (pv 0) (pa_nil))) (pe_one (pe_cmpR op_ge (pv 0) (pe_int) (nomark _))))), ?_⟩)
  · obtain ⟨v, d, rfl, _⟩ := h
    rfl
  · obtain ⟨v, d, rfl, hp, k⟩ := h
    (purse 7012 => fail)
    refine use_wholeD hp ?_
    (purse 7012 => fail)
    cases hp with
    | int n =>
      (purse 7015 => fail)
      (purse 7012 => fail)
      exact k
    | _ => exact iteF k
theorem ok_pairD (F : FnP K "is_pair" "is_pair" s_is_pair f fd) (T : TQ K w mg) (D_is_count : Dn P w K mg base 4 (ga K "is_count") ["value"] spCntD) : FnOk P w K mg base (L2.CX P w) 6 f fd ["value"] spPairD := by
  refine F.ok c_is_pair (fun vs H Q E h => ?_) (fun cdv A outer s H vs Q E hr h => ⟨_, pss_cons (ps_if (PW.pt (pw_or (pt_not (pt_val (pe_callB call_isi (by rfl) T.z_isinstance (by decide +kernel) (pa_cons (pv 0) (pa_cons (pe_bltn (v := .ty "tuple") rfl T.z_tuple (by decide +kernel) rfl) (pa_nil)))))) (pw_or1 (pt_cmpR op_ne (pe_callB cl_len (by rfl) T.z_len (by decide +kernel) (pa_cons (pv 0) (pa_nil))) (pe_int) (nomark _)))))
      (pss_one (ps_ret (pe_bl)))
      (pss_nil))
      (pss_cons (ps_asg (pv 0) (pg_tup (n := 2) rfl (pgs_cons (pg_name (i := 1) c_is_pair.nd rfl (Or.inl rfl)) (pgs_cons (pg_name (i := 2) c_is_pair.nd rfl (Or.inl rfl)) (pgs_nil)))))
      (pss_one (ps_ret (pe_and (pe_dn D_is_count (rm hr) rfl T.g_is_count (passes_call (takes_of rfl rfl rfl rfl) fun _ _ _ _ h => h) (pa_cons (pv 1) (pa_nil))) (pe_one (pe_or (pe_cmpR op_isN (pv 2) (pe_non) (nomark _)) (pe_one (pe_and (pe_dn D_is_count (rm hr) rfl T.g_is_count (passes_call (takes_of rfl rfl rfl rfl) fun _ _ _ _ h => h) (pa_cons (pv 2) (pa_nil))) (pe_one (pe_cmpR op_le (pv 1) (pv 2) (nomark _))))))))))), ?_⟩)
  · obtain ⟨v, d, rfl, _⟩ := h
    rfl
  · obtain ⟨v, d, rfl, hp, k⟩ := h
    (purse 7012 => fail)
    refine g_isP hp (kit_tuple d) ?_
    (purse 7012 => fail)
    cases hp with
    | @tup a xs ds e r =>
      (purse 7016 => fail)
      (purse 7012 => fail)
      refine g_lent e ?_
      (purse 7012 => fail)
      cases r with
      | nil =>
        (purse 7015 => fail)
        (purse 7012 => fail)
        exact k
      | @cons x1 vs1 d1 ds1 h1 r1 =>
        cases r1 with
        | nil =>
          (purse 7015 => fail)
          (purse 7012 => fail)
          rw [pair_1] at k
          exact k
        | @cons x2 vs2 d2 ds2 h2 r2 =>
          cases r2 with
          | @cons x3 vs3 d3 ds3 h3 r3 =>
            rw [pair_3] at k
            (purse 7015 => fail)
            (purse 7012 => fail)
            exact k
          | nil =>
            (purse 7016 => fail)
            (purse 7012 => fail)
            refine g_un2 (K := K) e ?_
            (purse 7012 => fail)
            refine ⟨x1, d1, rfl, h1, ?_⟩
            (purse 7012 => fail)
            cases hc : countB d1 with
            | false =>
              rw [pair_no hc] at k
              exact iteF k
            | true =>
              refine iteT ?_
              (purse 7012 => fail)
              refine ⟨rfl, ?_⟩
              cases h1 with
              | int n =>
                have hn : decide (0 ≤ n) = true := hc
                have h2c := h2
                cases h2 with
                | non =>
                  have k' : Q (.bl (decide (0 ≤ n))) H := k
                  rw [hn] at k'
                  (purse 7012 => fail)
                  (purse 7015 => fail)
                  (purse 7012 => fail)
                  exact k'
                | int m =>
                  have k' : Q (.bl (decide (0 ≤ n) && (decide (0 ≤ m) && decide (n ≤ m)))) H := k
                  rw [hn, Bool.true_and] at k'
                  (purse 7012 => fail)
                  (purse 7016 => fail)
                  (purse 7012 => fail)
                  refine ⟨_, .int m, rfl, .int m, ?_⟩
                  (purse 7012 => fail)
                  cases hm : decide (0 ≤ m) with
                  | false =>
                    rw [hm, Bool.false_and] at k'
                    rw [show countB (.int m) = false from hm]
                    exact iteF k'
                  | true =>
                    rw [hm, Bool.true_and] at k'
                    rw [show countB (.int m) = true from hm]
                    refine iteT ?_
                    (purse 7012 => fail)
                    exact k'
                | _ =>
                  (purse 7012 => fail)
                  (purse 7016 => fail)
                  (purse 7012 => fail)
                  refine ⟨_, _, rfl, by assumption, ?_⟩
                  (purse 7012 => fail)
                  exact iteF k
              | _ => cases hc
    | _ =>
      (purse 7015 => fail)
      (purse 7012 => fail)
      exact k
end

end K1
namespace K1
open PySem PySem.Spec PyProof.Rows L2 AF
open C8 (pe_gc)
open ST (Pr Ok sem Canon com gp early plus spr saB en sumc Ended)
local macro_rules | `(tactic| purse 7003 => fail) => `(tactic| k_dflt (refine Sh.has_ (by assumption) ?_; repeat (first | exact On.here | apply On.next)))
local macro_rules | `(tactic| purse 7004 => fail) => `(tactic| k_dflt (repeat (first | exact On.here | apply On.next)))
local macro_rules | `(tactic| purse 7005 => fail) => `(tactic| (repeat (first | exact Rep.here | apply Rep.next)))
local macro_rules | `(tactic| purse 7006 => fail) => `(tactic| (exact Sh.out (by assumption) (fun b h => by simp [h])))
local macro_rules | `(tactic| purse 7007 => fail) => `(tactic| k_dflt (first | ((with_reducible refine cdivw ?_ ?_) <;> omega) | ((with_reducible show CDiv _ _); constructor <;> omega) | ((with_reducible show CMul _ _); (first | (left; constructor <;> omega) | (right; constructor <;> omega))) | (show (0 : Int) < _; omega)))
local macro_rules | `(tactic| purse 7008 => fail) => `(tactic| first | exact Kd.int _ | exact Kd.bl _ | exact Kd.non | exact Kd.str _ | exact Kd.ins (by (purse 7003 => fail)) | exact Kd.lst (by (purse 7003 => fail)) | exact Kd.tup (by (purse 7003 => fail)))
local macro_rules | `(tactic| purse 7009 => fail) => `(tactic| first | exact DpAll.nil | (apply DpAll.cons; (purse 7010 => fail); (purse 7009 => fail)))
local macro_rules | `(tactic| purse 7010 => fail) => `(tactic| first | exact Dp.int _ | exact Dp.bl _ | exact Dp.non | exact Dp.str _ | (refine dp_int ?_; omega) | (refine dp_bl ?_; simp only [decide_eq_decide]; omega) | (apply dp_lst; (purse 7003 => fail); (purse 7009 => fail)) | (apply dp_tup; (purse 7003 => fail); (purse 7009 => fail)))
local macro_rules | `(tactic| purse 7011 => fail) => `(tactic| first | assumption | omega)
local macro_rules | `(tactic| purse 7001 => fail) => `(tactic| fail "no use")
local macro_rules | `(tactic| purse 7002 => fail) => `(tactic| first
  | (with_reducible refine set_go ?_)
  | (with_reducible refine Step.go ?_)
  | (with_reducible first | refine g_pow10_6 ?_ | refine g_pow10_7 ?_ | refine g_pow10_18 ?_ | refine g_pow10_29 ?_ | refine g_pow10_30 ?_)
  | ((with_reducible refine' g_I ?a0 ?_); (case a0 => (purse 7007 => fail)))
  | ((with_reducible refine' g_ixL ?a0 ?a1 ?_); (case a0 => (purse 7003 => fail)); (case a1 => k_dflt (exact rfl)))
  | ((with_reducible refine' g_kfld ?a0 ?a1 ?a2 ?a3 ?_); (case a0 => (purse 7003 => fail)); (case a1 => k_dflt (assumption)); (case a2 => k_dflt (assumption)); (case a3 => k_dflt (exact rfl)))
  | ((with_reducible refine' g_kprop ?a0 ?_); (case a0 => (purse 7003 => fail)))
  | ((with_reducible refine' g_kmeth ?a0 ?a1 ?_); (case a0 => (purse 7003 => fail)); (case a1 => k_dflt (exact rfl)))
  | ((with_reducible refine' g_own ?a0 ?a1 ?a2 ?_); (case a0 => (purse 7003 => fail)); (case a1 => (purse 7008 => fail)); (case a2 => k_dflt (assumption)))
  | ((with_reducible refine' g_cmp ?a0 ?a1 ?a2 ?_); (case a0 => (purse 7003 => fail)); (case a1 => (purse 7008 => fail)); (case a2 => k_dflt (assumption)))
  | ((with_reducible refine' g_neq ?a0 ?a1 ?a2 ?_); (case a0 => (purse 7003 => fail)); (case a1 => (purse 7008 => fail)); (case a2 => k_dflt (assumption)))
  | ((with_reducible refine' g_right ?a0 ?_); (case a0 => (purse 7003 => fail)))
  | ((with_reducible refine' use_draw ?a0 ?a1 ?a2 ?a3 ?a4 ?_); (case a0 => assumption); (case a1 => intro _ _; (purse 7005 => fail)); (case a2 => assumption); (case a3 => (purse 7011 => fail)); (case a4 => (purse 7011 => fail)); intro _ _ _ _ _ _ _ _)
  | ((with_reducible refine' use_giveI ?a0 ?a1 ?a2 ?_); (case a0 => assumption); (case a1 => intro _ _; (purse 7005 => fail)); (case a2 => assumption); intro _ _ _ _ _ _ _ _)
  | ((with_reducible refine' use_source ?a0 ?a1 ?_); (case a0 => assumption); (case a1 => k_dflt (assumption)); intro _ _ _ _ _ _)
  | (with_reducible refine g_absN ?_; intro _ _)
  | (with_reducible refine g_maxN ?_; intro _ _ _ _)
  | (with_reducible refine g_minN ?_; intro _ _ _ _)
  | ((with_reducible refine' g_kR1 ?a0 ?a1 ?_); (case a0 => omega); (case a1 => omega))
  | ((with_reducible refine' g_neD ?a0 ?a1 ?a2 ?_); (case a0 => (purse 7010 => fail)); (case a1 => (purse 7010 => fail)); (case a2 => k_dflt (rfl)))
  | ((with_reducible refine' g_eqD ?a0 ?a1 ?a2 ?_); (case a0 => (purse 7010 => fail)); (case a1 => (purse 7010 => fail)); (case a2 => k_dflt (rfl)))
  | ((with_reducible refine' g_klst ?a0 ?a1 ?_); (case a0 => assumption); (case a1 => k_dflt (exact rfl)); intro _ _ _ _)
  | ((with_reducible refine' g_ktup ?a0 ?a1 ?_); (case a0 => assumption); (case a1 => k_dflt (exact rfl)); intro _ _ _ _)
  | ((with_reducible refine' g_setL ?a0 ?a1 ?a2 ?_); (case a0 => assumption); (case a1 => (purse 7005 => fail)); (case a2 => k_dflt (exact rfl)); intro _ _)
  | ((with_reducible refine' g_unl3 ?a0 ?_); (case a0 => (purse 7003 => fail)))
  | (purse 7001 => fail))
local macro_rules | `(tactic| purse 7012 => fail) => `(tactic| ((try (with_reducible refine start_go ?_)); repeat (purse 7002 => fail)))
local macro_rules | `(tactic| purse 7013 => fail) => `(tactic| first | rfl | (refine decide_eq_true ?_; omega) | (simp only [Bool.not_eq_true', Bool.not_eq_false', decide_eq_false_iff_not, decide_eq_true_eq, Bool.not_not, decide_eq_decide]; done) | (simp only [Bool.not_eq_true', Bool.not_eq_false', decide_eq_false_iff_not, decide_eq_true_eq, Bool.not_not, decide_eq_decide]; omega))
local macro_rules | `(tactic| purse 7014 => fail) => `(tactic| first | rfl | (refine decide_eq_false ?_; omega) | (simp only [Bool.not_eq_true', Bool.not_eq_false', decide_eq_false_iff_not, decide_eq_true_eq, Bool.not_not, decide_eq_decide]; done) | (simp only [Bool.not_eq_true', Bool.not_eq_false', decide_eq_false_iff_not, decide_eq_true_eq, Bool.not_not, decide_eq_decide]; omega))
local macro_rules | `(tactic| purse 7015 => fail) => `(tactic| ((refine g_yes ?h ?_); (case h => (purse 7013 => fail))))
local macro_rules | `(tactic| purse 7016 => fail) => `(tactic| ((refine g_no ?h ?_); (case h => (purse 7014 => fail))))
local macro_rules | `(tactic| purse 7017 => fail) => `(tactic| first | (purse 7015 => fail) | (purse 7016 => fail))
local macro_rules | `(tactic| purse 7018 => fail) => `(tactic| repeat ((purse 7012 => fail); (purse 7017 => fail)))
local macro_rules | `(tactic| purse 7019 => fail) => `(tactic| repeat (first | exact intIn_nil | refine intIn_cons (by omega) (by omega) ?_))
local macro_rules | `(tactic| purse 7020 => fail) => `(tactic| (simp only [List.length_cons, List.length_nil]; omega))
local macro_rules | `(tactic| purse 7021 => fail) => `(tactic| (refine g_two (fun c => ?_) (fun c => ?_) <;> first | (have c := of_decide_eq_true c) | (have c := of_decide_eq_false c) | skip))
local macro_rules | `(tactic| purse 7022 => fail) => `(tactic| ((purse 7018 => fail); (purse 7012 => fail); try ((purse 7021 => fail) <;> (purse 7022 => fail))))

section
open He
variable {P : Program} {w : World} {K : PySem.W.Frag} {mg : Str → Option Value} {base : Heap} {f : Addr} {fd : FuncData}
theorem ok_keptE (F : FnP K "kept_of" "kept_of" s_kept_of f fd) (T : TQE K w mg) (X_NoStretch : Xn P w K mg base 3 (ga K "NoStretch") "index") : FnOk P w K mg base (L2.CX P w) 6 f fd ["value"] (spKeptE (ga K "NoStretch")) := by
  refine F.ok c_kept_of (fun vs H Q E h => ?_) (fun cdv A outer s H vs Q E hr h => ⟨_, pss_cons (ps_if (pt_not (pt_val (pe_callB call_isi (by rfl) T.z_isinstance (by decide +kernel) (pa_cons (pv 0) (pa_cons (pe_glob (v := .ref _) rfl T.g_Stretches rfl) (pa_nil))))))
      (pss_one (ps_err X_NoStretch (rm hr) rfl (takes_of rfl rfl rfl rfl) rfl T.g_NoStretch (passes_call (takes_of rfl rfl rfl rfl) fun _ _ _ _ h => h.elim) ((pe_non))))
      (pss_nil))
      (pss_one (ps_ret (pe_fld (pv 0) rfl))), ?_⟩)
  · obtain ⟨v, d, rfl, _⟩ := h
    rfl
  · obtain ⟨v, d, rfl, hp, k⟩ := h
    have S : Sh H (fun _ => False) H [] := Sh.start
    (purse 7012 => fail)
    refine g_isi (.own _) hp.ty (T.kSt _ (tyN_mem d)) ?_
    (purse 7012 => fail)
    (purse 7015 => fail)
    (purse 7012 => fail)
    refine g_err S fun d2 H2 S2 => ?_
    exact end_err S2 k
theorem ok_mkE (F : FnP K "__init__" "Stretches.__init__" s_Stretches___init__ f fd) (T : TQE K w mg) (X_NoStretch : Xn P w K mg base 3 (ga K "NoStretch") "index") (D_is_pair : Dn P w K mg base 6 (ga K "is_pair") ["value"] spPairD) (D_merged : Dn P w K mg base 6 (ga K "merged") ["pairs"] (fun _ _ _ _ => False)) :
    FnR P w K mg base (L2.CX P w) 8 f (fun vs H Q E => ∃ ws rest, vs = ws ++ rest ∧ ws.length = ["self"].length ∧ rest.length ≤ sizeLine ∧ ∀ p, H p = Option.none → spMkE (ga K "Stretches") (ga K "NoStretch") (ws ++ [V.ref p]) (upd H p (.tup rest)) Q E) := by
  refine okStar F c_Stretches___init__ (fun _ _ _ _ _ _ _ => by kernel_rfl) (fun _ _ _ _ _ _ _ _ _ => by kernel_rfl) (fun cdv A outer s H vs Q E hr h => ⟨_, pss_cons (ps_for (passes_of rfl) rfl (pi_enumT rfl T.z_enumerate (pa_cons (pv 1) (pa_nil))) (pg_tup (n := 2) rfl (pgs_cons (pg_name (i := 2) c_Stretches___init__.nd rfl (Or.inl rfl)) (pgs_cons (pg_name (i := 3) c_Stretches___init__.nd rfl (Or.inl rfl)) (pgs_nil))))
      (pss_one (ps_if (pt_not (pt_val (pe_dn D_is_pair (rm hr) rfl T.g_is_pair (passes_call (takes_of rfl rfl rfl rfl) fun _ _ _ _ h => h) (pa_cons (pv 3) (pa_nil)))))
      (pss_one (ps_err X_NoStretch (rm hr) rfl (takes_of rfl rfl rfl rfl) rfl T.g_NoStretch (passes_call (takes_of rfl rfl rfl rfl) fun _ _ _ _ h => h.elim) ((pv 2))))
      (pss_nil))))
      (pss_one (ps_fld (pv 0) (pe_dn D_merged (rm hr) rfl T.g_merged (passes_call (takes_of rfl rfl rfl rfl) fun _ _ _ _ h => h) (pa_cons (pv 1) (pa_nil))) rfl)), ?_⟩)
  obtain ⟨x, dx, t, ws, ds, ib, rfl, hx, ht, hp, ⟨hb1, db, hb2, hb3⟩, k⟩ := h
  (purse 7012 => fail)
  refine ⟨t, ws, rfl, SqT.of ht, for_enT (K := K) (xs := ws) (fun i σ' H' => ∃ (o2 o3 : Option V), σ' = [some (V.ref x), some (V.ref t), o2, o3] ∧ Up H H' ∧ i ≤ ib) ⟨none, none, rfl, Up.rfl', Nat.zero_le _⟩ ?_ ?_ ?_⟩
  · rintro i σ' H' _ ⟨o2, o3, rfl, uX, _⟩
    exact SqT.of (uX _ _ ht)
  · rintro i v σ' H' Tn hv ⟨o2, o3, rfl, uX, hi⟩ hT
    obtain ⟨d, hd, hpv⟩ := pva_get hp hv
    have uT : Up H (upd H' Tn (.tup [.int (i : Nat), v])) := uX.trans (Up.new hT)
    refine g_gt2 (K := K) upd_same ?_
    generalize upd H' Tn (.tup [.int (i : Nat), v]) = H7 at uT ⊢
    (purse 7012 => fail)
    refine ⟨v, d, rfl, hpv.up uT, ?_⟩
    (purse 7012 => fail)
    cases hq : pairB d with
    | true =>
      (purse 7016 => fail)
      (purse 7012 => fail)
      have hne : i ≠ ib := fun z => by rw [z, hb2] at hd; cases hd; rw [hq] at hb3; cases hb3
      exact ⟨_, _, rfl, uT, by omega⟩
    | false =>
      have hie : i = ib := by
        rcases Nat.lt_or_ge i ib with z | z
        · have := hb1 i d z hd; rw [hq] at this; cases this
        · omega
      (purse 7015 => fail)
      (purse 7012 => fail)
      have S : Sh H7 (fun _ => False) H7 [] := Sh.start
      refine g_err S fun d2 H2 S2 => ?_
      rw [hie] at S2
      exact end_err S2 (AF.Err.up k uT)
  · rintro σ' H' ⟨o2, o3, rfl, uX, hi⟩
    have h1 : ws.length = ds.length := (pva_len hp).symm
    have h2 : ib < ds.length := by
      rcases Nat.lt_or_ge ib ds.length with z | z
      · exact z
      · rw [List.getElem?_eq_none z] at hb2; cases hb2
    omega
end

end K1
namespace K1
open PySem PySem.Spec PyProof.Rows L2 AF
open C8 (pe_gc)
open ST (Pr Ok sem Canon com gp early plus spr saB en res sumc Ended)
local macro_rules | `(tactic| purse 7003 => fail) => `(tactic| k_dflt (refine Sh.has_ (by assumption) ?_; repeat (first | exact On.here | apply On.next)))
local macro_rules | `(tactic| purse 7004 => fail) => `(tactic| k_dflt (repeat (first | exact On.here | apply On.next)))
local macro_rules | `(tactic| purse 7005 => fail) => `(tactic| (repeat (first | exact Rep.here | apply Rep.next)))
local macro_rules | `(tactic| purse 7006 => fail) => `(tactic| (exact Sh.out (by assumption) (fun b h => by simp [h])))
local macro_rules | `(tactic| purse 7007 => fail) => `(tactic| k_dflt (first | ((with_reducible refine cdivw ?_ ?_) <;> omega) | ((with_reducible show CDiv _ _); constructor <;> omega) | ((with_reducible show CMul _ _); (first | (left; constructor <;> omega) | (right; constructor <;> omega))) | (show (0 : Int) < _; omega)))
local macro_rules | `(tactic| purse 7008 => fail) => `(tactic| first | exact Kd.int _ | exact Kd.bl _ | exact Kd.non | exact Kd.str _ | exact Kd.ins (by (purse 7003 => fail)) | exact Kd.lst (by (purse 7003 => fail)) | exact Kd.tup (by (purse 7003 => fail)))
local macro_rules | `(tactic| purse 7009 => fail) => `(tactic| first | exact DpAll.nil | (apply DpAll.cons; (purse 7010 => fail); (purse 7009 => fail)))
local macro_rules | `(tactic| purse 7010 => fail) => `(tactic| first | exact Dp.int _ | exact Dp.bl _ | exact Dp.non | exact Dp.str _ | (refine dp_int ?_; omega) | (refine dp_bl ?_; simp only [decide_eq_decide]; omega) | (apply dp_lst; (purse 7003 => fail); (purse 7009 => fail)) | (apply dp_tup; (purse 7003 => fail); (purse 7009 => fail)))
local macro_rules | `(tactic| purse 7011 => fail) => `(tactic| first | assumption | omega)
local macro_rules | `(tactic| purse 7001 => fail) => `(tactic| fail "no use")
local macro_rules | `(tactic| purse 7002 => fail) => `(tactic| first
  | (with_reducible refine set_go ?_)
  | (with_reducible refine Step.go ?_)
  | (with_reducible first | refine g_pow10_6 ?_ | refine g_pow10_7 ?_ | refine g_pow10_18 ?_ | refine g_pow10_29 ?_ | refine g_pow10_30 ?_)
  | ((with_reducible refine' g_I ?a0 ?_); (case a0 => (purse 7007 => fail)))
  | ((with_reducible refine' g_ixL ?a0 ?a1 ?_); (case a0 => (purse 7003 => fail)); (case a1 => k_dflt (exact rfl)))
  | ((with_reducible refine' g_kfld ?a0 ?a1 ?a2 ?a3 ?_); (case a0 => (purse 7003 => fail)); (case a1 => k_dflt (assumption)); (case a2 => k_dflt (assumption)); (case a3 => k_dflt (exact rfl)))
  | ((with_reducible refine' g_kprop ?a0 ?_); (case a0 => (purse 7003 => fail)))
  | ((with_reducible refine' g_kmeth ?a0 ?a1 ?_); (case a0 => (purse 7003 => fail)); (case a1 => k_dflt (exact rfl)))
  | ((with_reducible refine' g_own ?a0 ?a1 ?a2 ?_); (case a0 => (purse 7003 => fail)); (case a1 => (purse 7008 => fail)); (case a2 => k_dflt (assumption)))
  | ((with_reducible refine' g_cmp ?a0 ?a1 ?a2 ?_); (case a0 => (purse 7003 => fail)); (case a1 => (purse 7008 => fail)); (case a2 => k_dflt (assumption)))
  | ((with_reducible refine' g_neq ?a0 ?a1 ?a2 ?_); (case a0 => (purse 7003 => fail)); (case a1 => (purse 7008 => fail)); (case a2 => k_dflt (assumption)))
  | ((with_reducible refine' g_right ?a0 ?_); (case a0 => (purse 7003 => fail)))
  | ((with_reducible refine' use_draw ?a0 ?a1 ?a2 ?a3 ?a4 ?_); (case a0 => assumption); (case a1 => intro _ _; (purse 7005 => fail)); (case a2 => assumption); (case a3 => (purse 7011 => fail)); (case a4 => (purse 7011 => fail)); intro _ _ _ _ _ _ _ _)
  | ((with_reducible refine' use_giveI ?a0 ?a1 ?a2 ?_); (case a0 => assumption); (case a1 => intro _ _; (purse 7005 => fail)); (case a2 => assumption); intro _ _ _ _ _ _ _ _)
  | ((with_reducible refine' use_source ?a0 ?a1 ?_); (case a0 => assumption); (case a1 => k_dflt (assumption)); intro _ _ _ _ _ _)
  | (with_reducible refine g_absN ?_; intro _ _)
  | (with_reducible refine g_maxN ?_; intro _ _ _ _)
  | (with_reducible refine g_minN ?_; intro _ _ _ _)
  | ((with_reducible refine' g_kR1 ?a0 ?a1 ?_); (case a0 => omega); (case a1 => omega))
  | ((with_reducible refine' g_neD ?a0 ?a1 ?a2 ?_); (case a0 => (purse 7010 => fail)); (case a1 => (purse 7010 => fail)); (case a2 => k_dflt (rfl)))
  | ((with_reducible refine' g_eqD ?a0 ?a1 ?a2 ?_); (case a0 => (purse 7010 => fail)); (case a1 => (purse 7010 => fail)); (case a2 => k_dflt (rfl)))
  | ((with_reducible refine' g_klst ?a0 ?a1 ?_); (case a0 => assumption); (case a1 => k_dflt (exact rfl)); intro _ _ _ _)
  | ((with_reducible refine' g_ktup ?a0 ?a1 ?_); (case a0 => assumption); (case a1 => k_dflt (exact rfl)); intro _ _ _ _)
  | ((with_reducible refine' g_setL ?a0 ?a1 ?a2 ?_); (case a0 => assumption); (case a1 => (purse 7005 => fail)); (case a2 => k_dflt (exact rfl)); intro _ _)
  | ((with_reducible refine' g_unl3 ?a0 ?_); (case a0 => (purse 7003 => fail)))
  | (purse 7001 => fail))
local macro_rules | `(tactic| purse 7012 => fail) => `(tactic| ((try (with_reducible refine start_go ?_)); repeat (purse 7002 => fail)))
local macro_rules | `(tactic| purse 7013 => fail) => `(tactic| first | rfl | (refine decide_eq_true ?_; omega) | (simp only [Bool.not_eq_true', Bool.not_eq_false', decide_eq_false_iff_not, decide_eq_true_eq, Bool.not_not, decide_eq_decide]; done) | (simp only [Bool.not_eq_true', Bool.not_eq_false', decide_eq_false_iff_not, decide_eq_true_eq, Bool.not_not, decide_eq_decide]; omega))
local macro_rules | `(tactic| purse 7014 => fail) => `(tactic| first | rfl | (refine decide_eq_false ?_; omega) | (simp only [Bool.not_eq_true', Bool.not_eq_false', decide_eq_false_iff_not, decide_eq_true_eq, Bool.not_not, decide_eq_decide]; done) | (simp only [Bool.not_eq_true', Bool.not_eq_false', decide_eq_false_iff_not, decide_eq_true_eq, Bool.not_not, decide_eq_decide]; omega))
local macro_rules | `(tactic| purse 7015 => fail) => `(tactic| ((refine g_yes ?h ?_); (case h => (purse 7013 => fail))))
local macro_rules | `(tactic| purse 7016 => fail) => `(tactic| ((refine g_no ?h ?_); (case h => (purse 7014 => fail))))
local macro_rules | `(tactic| purse 7017 => fail) => `(tactic| first | (purse 7015 => fail) | (purse 7016 => fail))
local macro_rules | `(tactic| purse 7018 => fail) => `(tactic| repeat ((purse 7012 => fail); (purse 7017 => fail)))
local macro_rules | `(tactic| purse 7019 => fail) => `(tactic| repeat (first | exact intIn_nil | refine intIn_cons (by omega) (by omega) ?_))
local macro_rules | `(tactic| purse 7020 => fail) => `(tactic| (simp only [List.length_cons, List.length_nil]; omega))
local macro_rules | `(tactic| purse 7021 => fail) => `(tactic| (refine g_two (fun c => ?_) (fun c => ?_) <;> first | (have c := of_decide_eq_true c) | (have c := of_decide_eq_false c) | skip))
local macro_rules | `(tactic| purse 7022 => fail) => `(tactic| ((purse 7018 => fail); (purse 7012 => fail); try ((purse 7021 => fail) <;> (purse 7022 => fail))))

/-! sets of counts: merged, common, gaps, __init__ -/
def spMerged : Sp := fun vs H Q _ => ∃ (t : Addr) (l : List Pr), vs = [.ref t] ∧ Tp H t l ∧ (∀ p, p ∈ l → Ok p) ∧ l.length ≤ 900 ∧ ∀ r H' c, Up H H' → Tp H' r c → Canon c → (∀ x, sem c x ↔ sem l x) → c.length ≤ l.length → Q (.ref r) H'
def spCommon : Sp := fun vs H Q _ => ∃ (s t : Addr) (a b : List Pr), vs = [.ref s, .ref t] ∧ TL H s a ∧ TL H t b ∧ a.length + b.length ≤ 900 ∧ ∀ r H', H r = none → Up H H' → Lp H' r (com a b) → Q (.ref r) H'
def spGaps : Sp := fun vs H Q _ => ∃ (t : Addr) (l : List Pr), vs = [.ref t] ∧ Tp H t l ∧ l.length ≤ 900 ∧ ∀ r H', H r = none → Up H H' → Lp H' r (gp 0 l) → Q (.ref r) H'
def spMk (C : Addr) : Sp := fun vs H Q _ => ∃ (x dx t : Addr) (l : List Pr), vs = [.ref x, .ref t] ∧ H x = some (.ins C dx []) ∧ Tp H t l ∧ (∀ p, p ∈ l → Ok p) ∧ l.length ≤ 900 ∧ ∀ H' r c, UpX x H H' → H' x = some (.ins C dx (kp r)) → Tp H' r c → Canon c → (∀ y, sem c y ↔ sem l y) → c.length ≤ l.length → Q .non H'
section
open He
variable {P : Program} {w : World} {K : PySem.W.Frag} {mg : Str → Option Value} {base : Heap} {f : Addr} {fd : FuncData}
theorem ok_merged (F : FnP K "merged" "merged" s_merged f fd) (T : TQ K w mg) (D_starts_anew : Dn P w K mg base 2 (ga K "starts_anew") ["lows", "highs", "k"] spAnew) : FnOk P w K mg base (L2.CX P w) 6 f fd ["pairs"] spMerged := by
  refine F.ok c_merged (fun vs H Q E h => ?_) (fun cdv A outer s H vs Q E hr h => ⟨_, pss_cons (ps_set (i := 1) c_merged.nd rfl (Or.inr rfl) (pe_callB cr_sortedI (by rfl) T.z_sorted (by decide +kernel) (pa_cons (pe_lc (own := [("low", 9), ("high", 10)]) (g := gTup K 2 (gCons (gName 9) (gCons (gName 10) (gNil)))) (tt := tYes) rfl c_merged.nd (pi_tup (pv 0)) (blkOk_by (own := [("low", 9), ("high", 10)]) (N := ["pairs", "lows", "highs", "starts", "found", "at", "start", "goal", "k", "low", "high"]) (sc := defScope s_merged) (by decide +kernel)) (fun _ _ _ _ _ => pg_tup (n := 2) rfl (pgs_cons (pg_name (i := 9) c_merged.nd rfl (Or.inl rfl)) (pgs_cons (pg_name (i := 10) c_merged.nd rfl (Or.inl rfl)) (pgs_nil)))) (fun _ _ _ _ _ => pts_nil) (fun _ _ _ _ _ => pe_callTy cl_int (by rfl) T.z_int (by decide +kernel) (pa_cons (pv 9) (pa_nil)))) (pa_nil))))
      (pss_cons (ps_set (i := 2) c_merged.nd rfl (Or.inr rfl) (pe_callB cr_sortedI (by rfl) T.z_sorted (by decide +kernel) (pa_cons (pe_lc (own := [("low", 9), ("high", 10)]) (g := gTup K 2 (gCons (gName 9) (gCons (gName 10) (gNil)))) rfl c_merged.nd (pi_tup (pv 0)) (blkOk_by (own := [("low", 9), ("high", 10)]) (N := ["pairs", "lows", "highs", "starts", "found", "at", "start", "goal", "k", "low", "high"]) (sc := defScope s_merged) (by decide +kernel)) (fun _ _ _ _ _ => pg_tup (n := 2) rfl (pgs_cons (pg_name (i := 9) c_merged.nd rfl (Or.inl rfl)) (pgs_cons (pg_name (i := 10) c_merged.nd rfl (Or.inl rfl)) (pgs_nil)))) (fun _ _ _ _ _ => pts_one (pt_cmpR op_notN (pv 10) (pe_non) (nomark _))) (fun _ _ _ _ _ => pe_callTy cl_int (by rfl) T.z_int (by decide +kernel) (pa_cons (pv 10) (pa_nil)))) (pa_nil))))
      (pss_cons (ps_setLc (i := 3) (own := [("k", 8)]) (g := gName 8) rfl c_merged.nd rfl rfl (sw_true rfl rfl rfl rfl) (pi_range1 rfl T.z_range (pa_cons (pe_callB cl_len (by rfl) T.z_len (by decide +kernel) (pa_cons (pv 1) (pa_nil))) (pa_nil))) (blkOk_by (own := [("k", 8)]) (N := ["pairs", "lows", "highs", "starts", "found", "at", "start", "goal", "k", "low", "high"]) (sc := defScope s_merged) (by decide +kernel)) (fun _ _ _ _ _ => pg_name (i := 8) c_merged.nd rfl (Or.inl rfl)) (fun _ _ _ _ _ => pts_one (pt_val (pe_dn D_starts_anew (rm hr) rfl T.g_starts_anew passL (pa_cons (pv 1) (pa_cons (pv 2) (pa_cons (pv 8) (pa_nil))))))) (fun _ _ _ _ _ => pv 8))
      (pss_cons (ps_set (i := 4) c_merged.nd rfl (Or.inl rfl) (pe_lst (pa_nil)))
      (pss_cons (ps_for (passes_of rfl) rfl (pi_enum rfl T.z_enumerate (pa_cons (pv 3) (pa_nil))) (pg_tup (n := 2) rfl (pgs_cons (pg_name (i := 5) c_merged.nd rfl (Or.inl rfl)) (pgs_cons (pg_name (i := 6) c_merged.nd rfl (Or.inl rfl)) (pgs_nil))))
      (pss_cons (ps_set (i := 7) c_merged.nd rfl (Or.inl rfl) (pe_ifExp (pt_cmpR op_lt (pe_op op_add (pv 5) (pe_int)) (pe_callB cl_len (by rfl) T.z_len (by decide +kernel) (pa_cons (pv 3) (pa_nil))) (nomark _)) (pe_ix ix_list (pv 3) (pe_op op_add (pv 5) (pe_int)) (fun _ _ => rfl)) (pe_callB cl_len (by rfl) T.z_len (by decide +kernel) (pa_cons (pv 1) (pa_nil)))))
      (pss_one (ps_expr (pe_bm PySem.F.plainAttrs_list PySem.F.slot_list_append PySem.F.type_list_append mt_append (pv 4) (pa_cons (pe_tup (pa_cons (pe_ix ix_list (pv 1) (pv 6) (fun _ _ => rfl)) (pa_cons (pe_ifExp (pt_cmpR op_le (pv 7) (pe_callB cl_len (by rfl) T.z_len (by decide +kernel) (pa_cons (pv 2) (pa_nil))) (nomark _)) (pe_ix ix_list (pv 2) (pe_op op_sub (pv 7) (pe_int)) (fun _ _ => rfl)) (pe_non)) (pa_nil)))) (pa_nil)))))))
      (pss_one (ps_ret (pe_callTy call_tuple_of (by rfl) T.z_tuple (by decide +kernel) (pa_cons (pv 4) (pa_nil))))))))), ?_⟩)
  · obtain ⟨t, l, rfl, _⟩ := h
    rfl
  · obtain ⟨t, l, rfl, ⟨vs, ht, hp⟩, ho, hn, k⟩ := h
    (purse 7012 => fail)
    refine g_lcP (K := K) (fun p => some (V.int p.1)) ht hp (by omega) (fun p _ H1 R N u hy _ => ⟨rfl, ?_⟩) fun D H1 hD u1 hL => ?_
    · refine g_tYes ?_
      rw [show (List.set (wipe [some (V.ref t), none, none, none, none, none, none, none, none, none, none] (List.map (fun x => x.snd) [(Str.ofString "low", 9), (Str.ofString "high", 10)])) 9 (some (V.int p.fst))).set 10 (some (ov p.snd)) = [some (V.ref t), none, none, none, none, none, none, none, none, some (V.int p.fst), some (ov p.snd)] from rfl]
      (purse 7012 => fail)
      exact hy _ rfl
    (purse 7012 => fail)
    refine ⟨D, l.map (·.1), rfl, SqL.of (by rw [hL, List.map_map]; congr 1; simp [List.filterMap_eq_map, Function.comp_def]), fun L pL permL srtL nL => ?_⟩
    have u2 : Up H (upd H1 pL (.lst (L.map V.int))) := u1.trans (Up.new nL)
    have hpl : upd H1 pL (.lst (L.map V.int)) pL = some (.lst (L.map V.int)) := upd_same
    generalize upd H1 pL (.lst (L.map V.int)) = H2 at u2 hpl ⊢
    (purse 7012 => fail)
    refine g_lcP (K := K) (fun p => p.2.map V.int) (u2 _ _ ht) (hp.up u2) (by omega) (fun p _ H3 R N u hy hn => ⟨rfl, ?_⟩) fun D' H3 hD' u3 hL3 => ?_
    · obtain ⟨lo, hi⟩ := p
      rw [show (List.set (wipe [some (V.ref t), some (V.ref pL), none, none, none, none, none, none, none, none, none] (List.map (fun x => x.snd) [(Str.ofString "low", 9), (Str.ofString "high", 10)])) 9 (some (V.int lo))).set 10 (some (ov hi)) = [some (V.ref t), some (V.ref pL), none, none, none, none, none, none, none, some (V.int lo), some (ov hi)] from rfl]
      (purse 7012 => fail)
      refine ⟨rfl, ?_⟩
      cases hi with
      | none =>
        (purse 7012 => fail)
        (purse 7016 => fail)
        exact hn rfl
      | some u =>
        rw [show ov (some u) = V.int u from rfl]
        (purse 7012 => fail)
        (purse 7015 => fail)
        (purse 7012 => fail)
        exact hy _ rfl
    (purse 7012 => fail)
    refine ⟨D', l.filterMap (·.2), rfl, SqL.of (by rw [hL3, List.map_filterMap]), fun Hs pH permH srtH nH => ?_⟩
    have u4 : Up H2 (upd H3 pH (.lst (Hs.map V.int))) := u3.trans (Up.new nH)
    have hph : upd H3 pH (.lst (Hs.map V.int)) pH = some (.lst (Hs.map V.int)) := upd_same
    generalize upd H3 pH (.lst (Hs.map V.int)) = H4 at u4 hph ⊢
    have hpl4 := u4 _ _ hpl
    have hlen : L.length = l.length := by rw [permL.length_eq, List.length_map]
    (purse 7012 => fail)
    refine g_lenl hpl4 ?_
    rw [List.length_map]
    (purse 7012 => fail)
    refine g_lcRg (saB L Hs) (by omega) (fun k hk H5 R u hR => ⟨rfl, ?_⟩) (fun k hk => rfl) fun pS H5 hS u5 hS5 => ?_
    · rw [show (List.set (wipe [some (V.ref t), some (V.ref pL), some (V.ref pH), none, none, none, none, none, none, none, none] (List.map (fun x => x.snd) [(Str.ofString "k", 8)])) 8 (some (V.int (k : Nat)))) = [some (V.ref t), some (V.ref pL), some (V.ref pH), none, none, none, none, none, some (V.int (k : Nat)), none, none] from rfl]
      (purse 7012 => fail)
      refine ⟨pL, pH, L, Hs, k, rfl, u _ _ hpl4, u _ _ hph, hk, ?_⟩
      (purse 7012 => fail)
      exact hR
    (purse 7012 => fail)
    refine g_l0 (by rfl) fun pF hF => ?_
    have u6 : Up H5 (upd H5 pF (.lst [])) := Up.new hF
    have hpF : upd H5 pF (.lst []) pF = some (.lst []) := upd_same
    generalize upd H5 pF (.lst []) = H6 at u6 hpF ⊢
    have hpl6 := u6 _ _ (u5 _ _ hpl4)
    have hph6 := u6 _ _ (u5 _ _ hph)
    have hS6 := u6 _ _ hS5
    generalize est : (List.range L.length).filter (saB L Hs) = st at hS5 hS6
    have uall : Up H H6 := u2.trans (u4.trans (u5.trans u6))
    have hstl : st.length ≤ L.length := by rw [← est]; exact Nat.le_trans (List.length_filter_le _ _) (by rw [List.length_range]; exact Nat.le_refl _)
    have mk := ST.merged_ok (ps := l) (L := L) (Hs := Hs) ho permL permH srtL srtH
    rw [est] at mk
    (purse 7012 => fail)
    refine ⟨pS, st.map fun k => V.int (k : Nat), rfl, SqL.of hS6, for_enL (K := K) (xs := st.map fun k => V.int (k : Nat)) (fun i σ' H' => ∃ (o5 o6 o7 : Option V) (acc : List V), σ' = [some (V.ref t), some (V.ref pL), some (V.ref pH), some (V.ref pS), some (V.ref pF), o5, o6, o7, none, none, none] ∧ Up H5 H' ∧ H' pF = some (.lst acc) ∧ PrL H' acc ((res L Hs L.length st).take i)) ?_ ?_ ?_ ?_⟩
    · exact ⟨none, none, none, [], rfl, u6, hpF, .nil⟩
    · rintro i σ' H' _ ⟨o5, o6, o7, acc, rfl, uX, hF', hp'⟩
      exact SqL.of (uX _ _ hS5)
    · rintro i x σ' H' Tn hx ⟨o5, o6, o7, acc, rfl, uX, hF', hp'⟩ hT
      obtain ⟨s, es, rfl⟩ : ∃ s : Nat, st[i]? = some s ∧ x = V.int (s : Nat) := by
        rw [List.getElem?_map] at hx
        cases e : st[i]? with
        | none => rw [e] at hx; cases hx
        | some s => rw [e] at hx; cases hx; exact ⟨s, rfl, rfl⟩
      have hsl : s < L.length := fil_lt (t := saB L Hs) (k := i) (by rw [est]; exact es)
      have hil : i < st.length := (List.getElem?_eq_some_iff.mp es).1
      have uT : Up H' (upd H' Tn (.tup [.int (i : Nat), .int (s : Nat)])) := Up.new hT
      refine g_gt2 (K := K) upd_same ?_
      generalize upd H' Tn (.tup [.int (i : Nat), .int (s : Nat)]) = H7 at uT ⊢
      have u7 := uX.trans uT
      have hF7 := uT _ _ hF'
      have hp7 := hp'.up uT
      have hS7 := u7 _ _ hS5
      have hL7 := u7 _ _ (u5 _ _ hpl4)
      have hH7 := u7 _ _ (u5 _ _ hph)
      have hra := res_at (L := L) (Hs := Hs) (n := L.length) es
      generalize eg : st[i + 1]?.getD L.length = g at hra
      have hg1 : 1 ≤ g ∧ g ≤ L.length := by
        cases e : st[i + 1]? with
        | none =>
          rw [e] at eg
          subst eg
          exact ⟨by show 1 ≤ L.length; omega, Nat.le_refl _⟩
        | some s' =>
          rw [e] at eg
          subst eg
          exact ⟨fil_pos (n := L.length) (t := saB L Hs) (k := i) (by rw [est]; exact e), Nat.le_of_lt (fil_lt (t := saB L Hs) (k := i + 1) (by rw [est]; exact e))⟩
      (purse 7012 => fail)
      refine g_lenl hS7 ?_
      rw [List.length_map]
      (purse 7012 => fail)
      refine g_iv (H := H7) (v := .int (g : Nat)) (fun hb Q q => ?_) (fun hb Q q => ?_) ?_
      · have hb := of_decide_eq_true hb
        (purse 7012 => fail)
        refine g_ixL hS7 (v := .int (g : Nat)) ?_ q
        rw [show (i : Int) + 1 = ((i + 1 : Nat) : Int) from rfl]
        refine atI_nat ?_
        rw [List.getElem?_map]
        rw [List.getElem?_eq_getElem (show i + 1 < st.length by omega)] at eg ⊢
        rw [← eg]
        rfl
      · have hb := of_decide_eq_false hb
        (purse 7012 => fail)
        refine g_lenl hL7 ?_
        rw [List.length_map]
        rw [List.getElem?_eq_none (show st.length ≤ i + 1 by omega)] at eg
        rw [show g = L.length from eg.symm] at q
        exact q
      (purse 7012 => fail)
      refine ⟨.inl ⟨rfl, acc, SqL.of hF7⟩, ?_⟩
      (purse 7012 => fail)
      refine g_ixL hL7 (v := .int (L.getD s 0)) ?_ ?_
      · exact atI_nat (by rw [List.getElem?_map, List.getD_eq_getElem?_getD, List.getElem?_eq_getElem hsl]; rfl)
      (purse 7012 => fail)
      refine g_lenl hH7 ?_
      rw [List.length_map]
      (purse 7012 => fail)
      refine g_iv (H := H7) (v := ov (en Hs g)) (fun hb Q q => ?_) (fun hb Q q => ?_) ?_
      · have hb := of_decide_eq_true hb
        have e : en Hs g = some (Hs.getD (g - 1) 0) := if_pos (by omega)
        rw [e] at q
        (purse 7012 => fail)
        refine g_ixL hH7 (v := .int (Hs.getD (g - 1) 0)) ?_ q
        rw [show (g : Int) - 1 = ((g - 1 : Nat) : Int) by omega]
        exact atI_nat (by rw [List.getElem?_map, List.getD_eq_getElem?_getD, List.getElem?_eq_getElem (by omega)]; rfl)
      · have hb := of_decide_eq_false hb
        have e : en Hs g = none := if_neg (by omega)
        rw [e] at q
        (purse 7012 => fail)
        exact q
      (purse 7012 => fail)
      refine g_t0 (by rfl) fun q hq => ?_
      (purse 7012 => fail)
      have uq : Up H7 (upd H7 q (.tup [.int (L.getD s 0), ov (en Hs g)])) := Up.new hq
      have hqq : upd H7 q (.tup [.int (L.getD s 0), ov (en Hs g)]) q = some (.tup [.int (L.getD s 0), ov (en Hs g)]) := upd_same
      generalize upd H7 q (.tup [.int (L.getD s 0), ov (en Hs g)]) = H8 at uq hqq ⊢
      have hF8 := uq _ _ hF7
      refine ⟨pF, acc, _, rfl, rfl, hF8, line2 ?_, ?_⟩
      · rw [hp7.len, List.length_take]
        have := res_len (L := L) (Hs := Hs) (n := L.length) (st := st)
        omega
      (purse 7012 => fail)
      refine ⟨_, _, _, _, rfl, Up.setF (u7.trans uq) hF, upd_same, ?_⟩
      rw [List.take_add_one, hra]
      exact ((hp7.up uq).append (PrL.cons hqq .nil)).setL hF8
    · rintro σ' H' ⟨o5, o6, o7, acc, rfl, uX, hF', hp'⟩
      rw [List.length_map, ← res_len (L := L) (Hs := Hs) (n := L.length) (st := st), List.take_length] at hp'
      (purse 7012 => fail)
      refine ⟨pF, acc, rfl, .inl ⟨SqL.of hF', fun r hr => ?_⟩⟩
      have ur : Up H' (upd H' r (.tup acc)) := Up.new hr
      refine k r _ (res L Hs L.length st) ((u2.trans (u4.trans u5)).trans (uX.trans ur)) ⟨acc, upd_same, hp'.up ur⟩ mk.1 mk.2 ?_
      rw [res_len]
      omega
theorem ok_common (F : FnP K "common" "common" s_common f fd) (T : TQ K w mg) (D_earlier_end : Dn P w K mg base 2 (ga K "earlier_end") ["one", "other"] spEarly) : FnOk P w K mg base (L2.CX P w) 6 f fd ["one", "other"] spCommon := by
  refine F.ok c_common (fun vs H Q E h => ?_) (fun cdv A outer s H vs Q E hr h => ⟨_, pss_cons (ps_set (i := 2) c_common.nd rfl (Or.inl rfl) (pe_lst (pa_nil)))
      (pss_cons (ps_set (i := 3) c_common.nd rfl (Or.inl rfl) (pe_int))
      (pss_cons (ps_set (i := 4) c_common.nd rfl (Or.inl rfl) (pe_int))
      (pss_cons (ps_while (passes_of rfl) (PW.pt (pw_and (pt_cmpR op_lt (pv 3) (pe_callB cl_len (by rfl) T.z_len (by decide +kernel) (pa_cons (pv 0) (pa_nil))) (nomark _)) (pw_and1 (pt_cmpR op_lt (pv 4) (pe_callB cl_len (by rfl) T.z_len (by decide +kernel) (pa_cons (pv 1) (pa_nil))) (nomark _)))))
      (pss_cons (ps_set (i := 5) c_common.nd rfl (Or.inl rfl) (pe_callB (cl_max rfl) (by rfl) T.z_max (by decide +kernel) (pa_cons (pe_callTy cl_int (by rfl) T.z_int (by decide +kernel) (pa_cons (pe_ix ix_tup (pe_ix ix_any (pv 0) (pv 3) (fun _ _ => rfl)) (pe_int) (fun _ _ => rfl)) (pa_nil))) (pa_cons (pe_ix ix_tup (pe_ix ix_any (pv 1) (pv 4) (fun _ _ => rfl)) (pe_int) (fun _ _ => rfl)) (pa_nil)))))
      (pss_cons (ps_set (i := 6) c_common.nd rfl (Or.inl rfl) (pe_dn D_earlier_end (rm hr) rfl T.g_earlier_end (passes_call (takes_of rfl rfl rfl rfl) fun _ _ _ _ h => h) (pa_cons (pe_ix ix_tup (pe_ix ix_any (pv 0) (pv 3) (fun _ _ => rfl)) (pe_int) (fun _ _ => rfl)) (pa_cons (pe_ix ix_tup (pe_ix ix_any (pv 1) (pv 4) (fun _ _ => rfl)) (pe_int) (fun _ _ => rfl)) (pa_nil)))))
      (pss_cons (ps_if (PW.pt (pw_or (pt_cmpR op_isN (pv 6) (pe_non) (nomark _)) (pw_or1 (pt_cmpR op_le (pv 5) (pv 6) (nomark _)))))
      (pss_one (ps_expr (pe_bm PySem.F.plainAttrs_list PySem.F.slot_list_append PySem.F.type_list_append mt_append (pv 2) (pa_cons (pe_tup (pa_cons (pv 5) (pa_cons (pv 6) (pa_nil)))) (pa_nil)))))
      (pss_nil))
      (pss_one (ps_if (pt_cmpR op_eq (pe_ix ix_tup (pe_ix ix_any (pv 0) (pv 3) (fun _ _ => rfl)) (pe_int) (fun _ _ => rfl)) (pv 6) (nomark _))
      (pss_one (ps_aug (i := 3) c_common.nd rfl (Or.inl rfl) (pe_int) ip_add))
      (pss_one (ps_aug (i := 4) c_common.nd rfl (Or.inl rfl) (pe_int) ip_add))))))))
      (pss_one (ps_ret (pv 2)))))), ?_⟩)
  · obtain ⟨s, t, a, b, rfl, _⟩ := h
    rfl
  · obtain ⟨s', t, a, b, rfl, hs, ht, hn, k⟩ := h
    (purse 7012 => fail)
    refine g_l0 (by rfl) fun pF hF => ?_
    have u0 : Up H (upd H pF (.lst [])) := Up.new hF
    have hpF : upd H pF (.lst []) pF = some (.lst []) := upd_same
    generalize upd H pF (.lst []) = H1 at u0 hpF ⊢
    (purse 7012 => fail)
    refine ⟨fun m σ' H' => ∃ (i j : Nat) (o5 o6 : Option V) (acc : List V) (done : List Pr), σ' = [some (V.ref s'), some (V.ref t), some (V.ref pF), some (V.int (i : Nat)), some (V.int (j : Nat)), o5, o6] ∧ m = (a.length - i) + (b.length - j) ∧ i ≤ a.length ∧ j ≤ b.length ∧ Up H H' ∧ H' pF = some (.lst acc) ∧ PrL H' acc done ∧ com a b = done ++ com (a.drop i) (b.drop j), ⟨_, 0, 0, none, none, [], [], rfl, rfl, Nat.zero_le _, Nat.zero_le _, u0, hpF, .nil, rfl⟩, ?_⟩
    rintro m σ' H' ⟨i, j, o5, o6, acc, done, rfl, rfl, hia, hjb, uX, hF', hp', e⟩
    have fin : ∀ (x y : List Pr), com x y = [] → com a b = done ++ com x y → Q (.ref pF) H' := fun x y ee e => by
      rw [ee, List.append_nil] at e
      exact k pF H' hF uX ⟨acc, hF', by rw [e]; exact hp'⟩
    (purse 7012 => fail)
    refine g_lenA (K := K) (hs.up uX) ?_
    (purse 7012 => fail)
    by_cases hi : i < a.length
    · rw [show decide ((i : Int) < (a.length : Nat)) = true from decide_eq_true (by omega)]
      (purse 7015 => fail)
      (purse 7012 => fail)
      refine g_lenA (K := K) (ht.up uX) ?_
      (purse 7012 => fail)
      by_cases hj : j < b.length
      · rw [show decide ((j : Int) < (b.length : Nat)) = true from decide_eq_true (by omega)]
        (purse 7015 => fail)
        refine ⟨fun σ' H' => ∃ m', m' < (a.length - i) + (b.length - j) ∧ ∃ (i j : Nat) (o5 o6 : Option V) (acc : List V) (done : List Pr), σ' = [some (V.ref s'), some (V.ref t), some (V.ref pF), some (V.int (i : Nat)), some (V.int (j : Nat)), o5, o6] ∧ m' = (a.length - i) + (b.length - j) ∧ i ≤ a.length ∧ j ≤ b.length ∧ Up H H' ∧ H' pF = some (.lst acc) ∧ PrL H' acc done ∧ com a b = done ++ com (a.drop i) (b.drop j), fun σ' H' x => x, ?_⟩
        obtain ⟨p, hla⟩ : ∃ p, a[i]? = some p := ⟨_, List.getElem?_eq_getElem hi⟩
        obtain ⟨q, hlb⟩ : ∃ q, b[j]? = some q := ⟨_, List.getElem?_eq_getElem hj⟩
        have hga : a[i] = p := (List.getElem?_eq_some_iff.mp hla).2
        have hgb : b[j] = q := (List.getElem?_eq_some_iff.mp hlb).2
        rw [List.drop_eq_getElem_cons hi, hga, List.drop_eq_getElem_cons hj, hgb] at e
        (purse 7012 => fail)
        refine g_ixA (K := K) (hs.up uX) hla fun q1 hq1 => ?_
        (purse 7012 => fail)
        refine g_ixT (K := K) hq1 (by rfl) ?_
        (purse 7012 => fail)
        refine g_ixA (K := K) (ht.up uX) hlb fun q2 hq2 => ?_
        (purse 7012 => fail)
        refine g_ixT (K := K) hq2 (by rfl) ?_
        (purse 7012 => fail)
        rename_i z z1 z2 z3
        have ez : z = max p.1 q.1 := by omega
        subst ez
        refine g_ixA (K := K) (hs.up uX) hla fun q1 hq1 => ?_
        (purse 7012 => fail)
        refine g_ixT (K := K) hq1 (by rfl) ?_
        (purse 7012 => fail)
        refine g_ixA (K := K) (ht.up uX) hlb fun q2 hq2 => ?_
        (purse 7012 => fail)
        refine g_ixT (K := K) hq2 (by rfl) ?_
        (purse 7012 => fail)
        refine ⟨p.2, q.2, rfl, ?_⟩
        (purse 7012 => fail)
        refine ⟨rfl, ?_⟩
        cases hhi : early p.2 q.2 with
        | none =>
          have cc : ∀ h, early p.2 q.2 = some h → max p.1 q.1 ≤ h := fun h x => by rw [hhi] at x; cases x
          rw [show ov none = V.non from rfl]
          (purse 7012 => fail)
          (purse 7015 => fail)
          (purse 7012 => fail)
          (purse 7015 => fail)
          (purse 7012 => fail)
          refine ⟨.inl ⟨rfl, acc, SqL.of hF'⟩, ?_⟩
          (purse 7012 => fail)
          refine g_t0 (by rfl) fun q' hq' => ?_
          (purse 7012 => fail)
          have uq : Up H' (upd H' q' (.tup [.int (max p.1 q.1), .non])) := Up.new hq'
          have hqq : upd H' q' (.tup [.int (max p.1 q.1), .non]) q' = some (.tup [.int (max p.1 q.1), ov (early p.2 q.2)]) := by rw [upd_same, hhi]; rfl
          generalize upd H' q' (.tup [.int (max p.1 q.1), .non]) = H8 at uq hqq ⊢
          have hF8 := uq _ _ hF'
          refine ⟨pF, acc, _, rfl, rfl, hF8, line2 ?_, ?_⟩
          · rw [hp'.len]
            have := com_len a b
            rw [e, List.length_append] at this
            omega
          rw [com_yes cc] at e
          have u2 : Up H (upd H8 pF (.lst (acc ++ [.ref q']))) := Up.setF (uX.trans uq) hF
          have hF2 : upd H8 pF (.lst (acc ++ [.ref q'])) pF = some (.lst (acc ++ [.ref q'])) := upd_same
          have hp2 : PrL (upd H8 pF (.lst (acc ++ [.ref q']))) (acc ++ [.ref q']) (done ++ [(max p.1 q.1, early p.2 q.2)]) := ((hp'.up uq).append (PrL.cons (p := (max p.1 q.1, early p.2 q.2)) hqq .nil)).setL hF8
          have e2 : com a b = (done ++ [(max p.1 q.1, early p.2 q.2)]) ++ comr p q (a.drop (i + 1)) (b.drop (j + 1)) := by rw [e, List.append_assoc]; rfl
          generalize upd H8 pF (.lst (acc ++ [.ref q'])) = H2 at u2 hF2 hp2 ⊢
          generalize acc ++ [.ref q'] = acc2 at hF2 hp2
          generalize done ++ [(max p.1 q.1, early p.2 q.2)] = done2 at hp2 e2
          rw [show .non = ov (early p.2 q.2) from by rw [hhi]; rfl]
          (purse 7012 => fail)
          refine g_ixA (K := K) (hs.up u2) hla fun q1 hq1 => ?_
          (purse 7012 => fail)
          refine g_ixT (K := K) hq1 (by rfl) ?_
          (purse 7012 => fail)
          refine g_eqO ?_
          (purse 7012 => fail)
          by_cases ce : p.2 = early p.2 q.2
          · rw [decide_eq_true ce]
            (purse 7015 => fail)
            (purse 7012 => fail)
            refine ⟨(a.length - (i + 1)) + (b.length - j), by omega, i + 1, j, some (.int (max p.1 q.1)), some (ov (early p.2 q.2)), acc2, done2, ?_, rfl, by omega, by omega, u2, hF2, hp2, ?_⟩
            · rfl
            · rw [e2, comr, if_pos ce, List.drop_eq_getElem_cons hj, hgb]
          · rw [decide_eq_false ce]
            (purse 7016 => fail)
            (purse 7012 => fail)
            refine ⟨(a.length - i) + (b.length - (j + 1)), by omega, i, j + 1, some (.int (max p.1 q.1)), some (ov (early p.2 q.2)), acc2, done2, ?_, rfl, by omega, by omega, u2, hF2, hp2, ?_⟩
            · rfl
            · rw [e2, comr, if_neg ce, List.drop_eq_getElem_cons hi, hga]
        | some u =>
          rw [show ov (some u) = V.int u from rfl]
          (purse 7012 => fail)
          (purse 7016 => fail)
          (purse 7012 => fail)
          by_cases cu : max p.1 q.1 ≤ u
          · have cc : ∀ h, early p.2 q.2 = some h → max p.1 q.1 ≤ h := fun h x => by rw [hhi] at x; cases x; exact cu
            rw [decide_eq_true cu]
            (purse 7015 => fail)
            (purse 7012 => fail)
            refine ⟨.inl ⟨rfl, acc, SqL.of hF'⟩, ?_⟩
            (purse 7012 => fail)
            refine g_t0 (by rfl) fun q' hq' => ?_
            (purse 7012 => fail)
            have uq : Up H' (upd H' q' (.tup [.int (max p.1 q.1), .int u])) := Up.new hq'
            have hqq : upd H' q' (.tup [.int (max p.1 q.1), .int u]) q' = some (.tup [.int (max p.1 q.1), ov (early p.2 q.2)]) := by rw [upd_same, hhi]; rfl
            generalize upd H' q' (.tup [.int (max p.1 q.1), .int u]) = H8 at uq hqq ⊢
            have hF8 := uq _ _ hF'
            refine ⟨pF, acc, _, rfl, rfl, hF8, line2 ?_, ?_⟩
            · rw [hp'.len]
              have := com_len a b
              rw [e, List.length_append] at this
              omega
            rw [com_yes cc] at e
            have u2 : Up H (upd H8 pF (.lst (acc ++ [.ref q']))) := Up.setF (uX.trans uq) hF
            have hF2 : upd H8 pF (.lst (acc ++ [.ref q'])) pF = some (.lst (acc ++ [.ref q'])) := upd_same
            have hp2 : PrL (upd H8 pF (.lst (acc ++ [.ref q']))) (acc ++ [.ref q']) (done ++ [(max p.1 q.1, early p.2 q.2)]) := ((hp'.up uq).append (PrL.cons (p := (max p.1 q.1, early p.2 q.2)) hqq .nil)).setL hF8
            have e2 : com a b = (done ++ [(max p.1 q.1, early p.2 q.2)]) ++ comr p q (a.drop (i + 1)) (b.drop (j + 1)) := by rw [e, List.append_assoc]; rfl
            generalize upd H8 pF (.lst (acc ++ [.ref q'])) = H2 at u2 hF2 hp2 ⊢
            generalize acc ++ [.ref q'] = acc2 at hF2 hp2
            generalize done ++ [(max p.1 q.1, early p.2 q.2)] = done2 at hp2 e2
            rw [show .int u = ov (early p.2 q.2) from by rw [hhi]; rfl]
            (purse 7012 => fail)
            refine g_ixA (K := K) (hs.up u2) hla fun q1 hq1 => ?_
            (purse 7012 => fail)
            refine g_ixT (K := K) hq1 (by rfl) ?_
            (purse 7012 => fail)
            refine g_eqO ?_
            (purse 7012 => fail)
            by_cases ce : p.2 = early p.2 q.2
            · rw [decide_eq_true ce]
              (purse 7015 => fail)
              (purse 7012 => fail)
              refine ⟨(a.length - (i + 1)) + (b.length - j), by omega, i + 1, j, some (.int (max p.1 q.1)), some (ov (early p.2 q.2)), acc2, done2, ?_, rfl, by omega, by omega, u2, hF2, hp2, ?_⟩
              · rfl
              · rw [e2, comr, if_pos ce, List.drop_eq_getElem_cons hj, hgb]
            · rw [decide_eq_false ce]
              (purse 7016 => fail)
              (purse 7012 => fail)
              refine ⟨(a.length - i) + (b.length - (j + 1)), by omega, i, j + 1, some (.int (max p.1 q.1)), some (ov (early p.2 q.2)), acc2, done2, ?_, rfl, by omega, by omega, u2, hF2, hp2, ?_⟩
              · rfl
              · rw [e2, comr, if_neg ce, List.drop_eq_getElem_cons hi, hga]
          · have cc : ¬ ∀ h, early p.2 q.2 = some h → max p.1 q.1 ≤ h := fun x => cu (x u hhi)
            rw [decide_eq_false cu]
            (purse 7016 => fail)
            rw [com_no cc] at e
            have u2 := uX
            have hF2 := hF'
            have hp2 := hp'
            have e2 := e
            generalize acc = acc2 at hF2 hp2
            generalize done = done2 at hp2 e2
            rw [show V.int u = ov (early p.2 q.2) from by rw [hhi]; rfl]
            (purse 7012 => fail)
            refine g_ixA (K := K) (hs.up u2) hla fun q1 hq1 => ?_
            (purse 7012 => fail)
            refine g_ixT (K := K) hq1 (by rfl) ?_
            (purse 7012 => fail)
            refine g_eqO ?_
            (purse 7012 => fail)
            by_cases ce : p.2 = early p.2 q.2
            · rw [decide_eq_true ce]
              (purse 7015 => fail)
              (purse 7012 => fail)
              refine ⟨(a.length - (i + 1)) + (b.length - j), by omega, i + 1, j, some (.int (max p.1 q.1)), some (ov (early p.2 q.2)), acc2, done2, ?_, rfl, by omega, by omega, u2, hF2, hp2, ?_⟩
              · rfl
              · rw [e2, comr, if_pos ce, List.drop_eq_getElem_cons hj, hgb]
            · rw [decide_eq_false ce]
              (purse 7016 => fail)
              (purse 7012 => fail)
              refine ⟨(a.length - i) + (b.length - (j + 1)), by omega, i, j + 1, some (.int (max p.1 q.1)), some (ov (early p.2 q.2)), acc2, done2, ?_, rfl, by omega, by omega, u2, hF2, hp2, ?_⟩
              · rfl
              · rw [e2, comr, if_neg ce, List.drop_eq_getElem_cons hi, hga]
      · rw [show decide ((j : Int) < (b.length : Nat)) = false from decide_eq_false (by omega)]
        (purse 7016 => fail)
        (purse 7012 => fail)
        rw [List.drop_eq_nil_of_le (show b.length ≤ j by omega)] at e
        exact fin _ _ com_nil2 e
    · rw [show decide ((i : Int) < (a.length : Nat)) = false from decide_eq_false (by omega)]
      (purse 7016 => fail)
      (purse 7016 => fail)
      (purse 7012 => fail)
      rw [List.drop_eq_nil_of_le (show a.length ≤ i by omega)] at e
      exact fin _ _ com_nil1 e
theorem ok_gaps (F : FnP K "gaps" "gaps" s_gaps f fd) (T : TQ K w mg) : FnOk P w K mg base (L2.CX P w) 6 f fd ["pairs"] spGaps := by
  refine F.ok c_gaps (fun vs H Q E h => ?_) (fun cdv A outer s H vs Q E hr h => ⟨_, pss_cons (ps_set (i := 1) c_gaps.nd rfl (Or.inl rfl) (pe_lst (pa_nil)))
      (pss_cons (ps_set (i := 2) c_gaps.nd rfl (Or.inl rfl) (pe_int))
      (pss_cons (ps_for (passes_of rfl) rfl (pi_tup (pv 0)) (pg_tup (n := 2) rfl (pgs_cons (pg_name (i := 3) c_gaps.nd rfl (Or.inl rfl)) (pgs_cons (pg_name (i := 4) c_gaps.nd rfl (Or.inl rfl)) (pgs_nil))))
      (pss_cons (ps_if (pt_cmpR op_lt (pv 2) (pv 3) (nomark _))
      (pss_one (ps_expr (pe_bm PySem.F.plainAttrs_list PySem.F.slot_list_append PySem.F.type_list_append mt_append (pv 1) (pa_cons (pe_tup (pa_cons (pv 2) (pa_cons (pe_op op_sub (pv 3) (pe_int)) (pa_nil)))) (pa_nil)))))
      (pss_nil))
      (pss_cons (ps_if (pt_cmpR op_isN (pv 4) (pe_non) (nomark _))
      (pss_one (ps_ret (pv 1)))
      (pss_nil))
      (pss_one (ps_set (i := 2) c_gaps.nd rfl (Or.inl rfl) (pe_op op_add (pv 4) (pe_int)))))))
      (pss_cons (ps_expr (pe_bm PySem.F.plainAttrs_list PySem.F.slot_list_append PySem.F.type_list_append mt_append (pv 1) (pa_cons (pe_tup (pa_cons (pv 2) (pa_cons (pe_non) (pa_nil)))) (pa_nil))))
      (pss_one (ps_ret (pv 1)))))), ?_⟩)
  · obtain ⟨t, l, rfl, _⟩ := h
    rfl
  · obtain ⟨t, l, rfl, ⟨vs, ht, hp⟩, hn, k⟩ := h
    have hl := hp.len
    (purse 7012 => fail)
    refine g_l0 (by rfl) fun pF hF => ?_
    have u0 : Up H (upd H pF (.lst [])) := Up.new hF
    have hpF : upd H pF (.lst []) pF = some (.lst []) := upd_same
    generalize upd H pF (.lst []) = H1 at u0 hpF ⊢
    (purse 7012 => fail)
    have ht1 := u0 _ _ ht
    refine ⟨t, rfl, ⟨vs, SqT.of ht1⟩, for_tup (K := K) (xs := vs) (fun i σ' H' => ∃ (o3 o4 : Option V) (acc : List V) (done : List Pr) (lo : Int), σ' = [some (V.ref t), some (V.ref pF), some (V.int lo), o3, o4] ∧ Up H H' ∧ H' pF = some (.lst acc) ∧ PrL H' acc done ∧ gp 0 l = done ++ gp lo (l.drop i)) ?_ ?_ ?_ ?_⟩
    · exact ⟨none, none, [], [], 0, rfl, u0, hpF, .nil, rfl⟩
    · rintro i σ' H' _ ⟨o3, o4, acc, done, lo, rfl, uX, hF', hp', e⟩
      exact SqT.of (uX _ _ ht)
    · rintro i x σ' H' hx ⟨o3, o4, acc, done, lo, rfl, uX, hF', hp', e⟩
      obtain ⟨q, p, rfl, hlk, hq⟩ := hp.get hx
      obtain ⟨hlt, hget⟩ := List.getElem?_eq_some_iff.mp hlk
      rw [List.drop_eq_getElem_cons hlt, hget] at e
      have hll : ∀ d : List Pr, ∀ r, gp 0 l = d ++ r → d.length ≤ 2000 := fun d r ee => by
        have := gp_len l 0
        rw [ee, List.length_append] at this
        omega
      refine g_gt2 (K := K) (uX _ _ hq) ?_
      obtain ⟨a, b⟩ := p
      (purse 7012 => fail)
      refine g_meet (fun σ2 H2 => ∃ (acc : List V) (done : List Pr), σ2 = [some (V.ref t), some (V.ref pF), some (V.int lo), some (V.int a), some (ov b)] ∧ Up H H2 ∧ H2 pF = some (.lst acc) ∧ PrL H2 acc done ∧ gp 0 l = done ++ gpn b (l.drop (i + 1))) (fun hb nx q => ?_) (fun hb nx q => ?_) ?_
      · have hb := of_decide_eq_true hb
        (purse 7012 => fail)
        refine ⟨.inl ⟨rfl, acc, SqL.of hF'⟩, ?_⟩
        (purse 7012 => fail)
        refine g_t0 (by rfl) fun q' hq' => ?_
        (purse 7012 => fail)
        have uq : Up H' (upd H' q' (.tup [.int lo, .int (a - 1)])) := Up.new hq'
        have hqq : upd H' q' (.tup [.int lo, .int (a - 1)]) q' = some (.tup [.int lo, ov (some (a - 1))]) := upd_same
        generalize upd H' q' (.tup [.int lo, .int (a - 1)]) = H8 at uq hqq ⊢
        have hF8 := uq _ _ hF'
        refine ⟨pF, acc, _, rfl, rfl, hF8, line2 ?_, ?_⟩
        · rw [hp'.len]
          exact hll _ _ e
        (purse 7012 => fail)
        refine q _ _ ⟨_, done ++ [(lo, some (a - 1))], rfl, Up.setF (uX.trans uq) hF, upd_same, ((hp'.up uq).append (PrL.cons (p := (lo, some (a - 1))) hqq .nil)).setL hF8, ?_⟩
        rw [e, List.append_assoc]
        show _ ++ ((if lo < a then [((lo, some (a - 1)) : Pr)] else []) ++ _) = _
        rw [if_pos hb]
        rfl
      · have hb := of_decide_eq_false hb
        (purse 7012 => fail)
        refine q _ _ ⟨acc, done, rfl, uX, hF', hp', ?_⟩
        rw [e]
        show _ ++ ((if lo < a then [((lo, some (a - 1)) : Pr)] else []) ++ _) = _
        rw [if_neg hb]
        rfl
      · rintro σ2 H2 ⟨acc, done, rfl, u2, hF2, hp2, e2⟩
        (purse 7012 => fail)
        refine ⟨rfl, ?_⟩
        cases b with
        | none =>
          (purse 7012 => fail)
          (purse 7015 => fail)
          (purse 7012 => fail)
          replace e2 := e2.trans (List.append_nil done)
          exact k pF H2 hF u2 ⟨acc, hF2, by rw [e2]; exact hp2⟩
        | some u =>
          rw [show ov (some u) = V.int u from rfl]
          (purse 7012 => fail)
          (purse 7016 => fail)
          (purse 7012 => fail)
          exact ⟨_, _, acc, done, u + 1, rfl, u2, hF2, hp2, e2⟩
    · rintro σ' H' ⟨o3, o4, acc, done, lo, rfl, uX, hF', hp', e⟩
      rw [hl, List.drop_length] at e
      (purse 7012 => fail)
      refine ⟨.inl ⟨rfl, acc, SqL.of hF'⟩, ?_⟩
      (purse 7012 => fail)
      refine g_t0 (by rfl) fun q' hq' => ?_
      (purse 7012 => fail)
      have uq : Up H' (upd H' q' (.tup [.int lo, .non])) := Up.new hq'
      have hqq : upd H' q' (.tup [.int lo, .non]) q' = some (.tup [.int lo, ov none]) := upd_same
      generalize upd H' q' (.tup [.int lo, .non]) = H8 at uq hqq ⊢
      have hF8 := uq _ _ hF'
      refine ⟨pF, acc, _, rfl, rfl, hF8, line2 ?_, ?_⟩
      · rw [hp'.len]
        have := gp_len l 0
        rw [e, List.length_append] at this
        omega
      (purse 7012 => fail)
      refine k pF _ hF (Up.setF (uX.trans uq) hF) ⟨_, upd_same, ?_⟩
      rw [e]
      exact ((hp'.up uq).append (PrL.cons (p := (lo, none)) hqq .nil)).setL hF8
theorem ok_mk (F : FnP K "__init__" "Stretches.__init__" s_Stretches___init__ f fd) (T : TQ K w mg) (D_is_pair : Dn P w K mg base 6 (ga K "is_pair") ["value"] spPair) (D_merged : Dn P w K mg base 6 (ga K "merged") ["pairs"] spMerged) :
    FnR P w K mg base (L2.CX P w) 8 f (fun vs H Q E => ∃ ws rest, vs = ws ++ rest ∧ ws.length = ["self"].length ∧ rest.length ≤ sizeLine ∧ ∀ p, H p = Option.none → spMk (ga K "Stretches") (ws ++ [V.ref p]) (upd H p (.tup rest)) Q E) := by
  refine okStar F c_Stretches___init__ (fun _ _ _ _ _ _ _ => by kernel_rfl) (fun _ _ _ _ _ _ _ _ _ => by kernel_rfl) (fun cdv A outer s H vs Q E hr h => ⟨_, pss_cons (ps_for (passes_of rfl) rfl (pi_enumT rfl T.z_enumerate (pa_cons (pv 1) (pa_nil))) (pg_tup (n := 2) rfl (pgs_cons (pg_name (i := 2) c_Stretches___init__.nd rfl (Or.inl rfl)) (pgs_cons (pg_name (i := 3) c_Stretches___init__.nd rfl (Or.inl rfl)) (pgs_nil))))
      (pss_one (ps_if (pt_not (pt_val (pe_dn D_is_pair (rm hr) rfl T.g_is_pair (passes_call (takes_of rfl rfl rfl rfl) fun _ _ _ _ h => h) (pa_cons (pv 3) (pa_nil)))))
      (pss_one (ps_never))
      (pss_nil))))
      (pss_one (ps_fld (pv 0) (pe_dn D_merged (rm hr) rfl T.g_merged (passes_call (takes_of rfl rfl rfl rfl) fun _ _ _ _ h => h) (pa_cons (pv 1) (pa_nil))) rfl)), ?_⟩)
  obtain ⟨x, dx, t, l, rfl, hx, ⟨vs, ht, hp⟩, ho, hn, k⟩ := h
  (purse 7012 => fail)
  refine ⟨t, vs, rfl, SqT.of ht, for_enT (K := K) (xs := vs) (fun i σ' H' => ∃ (o2 o3 : Option V), σ' = [some (V.ref x), some (V.ref t), o2, o3] ∧ Up H H') ⟨none, none, rfl, Up.rfl'⟩ ?_ ?_ ?_⟩
  · rintro i σ' H' _ ⟨o2, o3, rfl, uX⟩
    exact SqT.of (uX _ _ ht)
  · rintro i v σ' H' Tn hv ⟨o2, o3, rfl, uX⟩ hT
    obtain ⟨q, p, rfl, hlk, hq⟩ := hp.get hv
    have hm : p ∈ l := List.mem_of_getElem? hlk
    have uT : Up H (upd H' Tn (.tup [.int (i : Nat), .ref q])) := uX.trans (Up.new hT)
    refine g_gt2 (K := K) upd_same ?_
    generalize upd H' Tn (.tup [.int (i : Nat), .ref q]) = H7 at uT ⊢
    (purse 7012 => fail)
    refine ⟨q, p, rfl, uT _ _ hq, ho p hm, ?_⟩
    (purse 7012 => fail)
    (purse 7016 => fail)
    (purse 7012 => fail)
    exact ⟨_, _, rfl, uT⟩
  · rintro σ' H' ⟨o2, o3, rfl, uX⟩
    (purse 7012 => fail)
    refine ⟨t, l, rfl, ⟨vs, uX _ _ ht, hp.up uX⟩, ho, hn, fun r H2 c u2 tp cn sm ln => ?_⟩
    (purse 7012 => fail)
    have hx2 := u2 _ _ (uX _ _ hx)
    have S : Sh H2 (fun b => b = x) H2 [(x, .ins (ga K "Stretches") dx [], true)] := Sh.start.take hx2 rfl (fun _ h => nomatch h)
    refine g_ksfld S (by (purse 7005 => fail)) T.cl T.nK (by decide) fun H3 S3 => ?_
    have ux : UpX x H2 H3 := UpX.of (S3.out fun b h => by simp [h])
    exact k H3 r c ((uX.trans u2).toX.trans ux) (S3.has_ .here) (tp.upX ux fun xs e => by rw [hx2] at e; cases e) cn sm ln
end

end K1
namespace K1
open PySem PySem.Spec PyProof.Rows L2 AF
open C8 (pe_gc)
open ST (Pr Ok sem Canon com gp early plus spr saB en res sumc Ended)
local macro_rules | `(tactic| purse 7003 => fail) => `(tactic| k_dflt (refine Sh.has_ (by assumption) ?_; repeat (first | exact On.here | apply On.next)))
local macro_rules | `(tactic| purse 7004 => fail) => `(tactic| k_dflt (repeat (first | exact On.here | apply On.next)))
local macro_rules | `(tactic| purse 7005 => fail) => `(tactic| (repeat (first | exact Rep.here | apply Rep.next)))
local macro_rules | `(tactic| purse 7006 => fail) => `(tactic| (exact Sh.out (by assumption) (fun b h => by simp [h])))
local macro_rules | `(tactic| purse 7007 => fail) => `(tactic| k_dflt (first | ((with_reducible refine cdivw ?_ ?_) <;> omega) | ((with_reducible show CDiv _ _); constructor <;> omega) | ((with_reducible show CMul _ _); (first | (left; constructor <;> omega) | (right; constructor <;> omega))) | (show (0 : Int) < _; omega)))
local macro_rules | `(tactic| purse 7008 => fail) => `(tactic| first | exact Kd.int _ | exact Kd.bl _ | exact Kd.non | exact Kd.str _ | exact Kd.ins (by (purse 7003 => fail)) | exact Kd.lst (by (purse 7003 => fail)) | exact Kd.tup (by (purse 7003 => fail)))
local macro_rules | `(tactic| purse 7009 => fail) => `(tactic| first | exact DpAll.nil | (apply DpAll.cons; (purse 7010 => fail); (purse 7009 => fail)))
local macro_rules | `(tactic| purse 7010 => fail) => `(tactic| first | exact Dp.int _ | exact Dp.bl _ | exact Dp.non | exact Dp.str _ | (refine dp_int ?_; omega) | (refine dp_bl ?_; simp only [decide_eq_decide]; omega) | (apply dp_lst; (purse 7003 => fail); (purse 7009 => fail)) | (apply dp_tup; (purse 7003 => fail); (purse 7009 => fail)))
local macro_rules | `(tactic| purse 7011 => fail) => `(tactic| first | assumption | omega)
local macro_rules | `(tactic| purse 7001 => fail) => `(tactic| fail "no use")
local macro_rules | `(tactic| purse 7002 => fail) => `(tactic| first
  | (with_reducible refine set_go ?_)
  | (with_reducible refine Step.go ?_)
  | (with_reducible first | refine g_pow10_6 ?_ | refine g_pow10_7 ?_ | refine g_pow10_18 ?_ | refine g_pow10_29 ?_ | refine g_pow10_30 ?_)
  | ((with_reducible refine' g_I ?a0 ?_); (case a0 => (purse 7007 => fail)))
  | ((with_reducible refine' g_ixL ?a0 ?a1 ?_); (case a0 => (purse 7003 => fail)); (case a1 => k_dflt (exact rfl)))
  | ((with_reducible refine' g_kfld ?a0 ?a1 ?a2 ?a3 ?_); (case a0 => (purse 7003 => fail)); (case a1 => k_dflt (assumption)); (case a2 => k_dflt (assumption)); (case a3 => k_dflt (exact rfl)))
  | ((with_reducible refine' g_kprop ?a0 ?_); (case a0 => (purse 7003 => fail)))
  | ((with_reducible refine' g_kmeth ?a0 ?a1 ?_); (case a0 => (purse 7003 => fail)); (case a1 => k_dflt (exact rfl)))
  | ((with_reducible refine' g_own ?a0 ?a1 ?a2 ?_); (case a0 => (purse 7003 => fail)); (case a1 => (purse 7008 => fail)); (case a2 => k_dflt (assumption)))
  | ((with_reducible refine' g_cmp ?a0 ?a1 ?a2 ?_); (case a0 => (purse 7003 => fail)); (case a1 => (purse 7008 => fail)); (case a2 => k_dflt (assumption)))
  | ((with_reducible refine' g_neq ?a0 ?a1 ?a2 ?_); (case a0 => (purse 7003 => fail)); (case a1 => (purse 7008 => fail)); (case a2 => k_dflt (assumption)))
  | ((with_reducible refine' g_right ?a0 ?_); (case a0 => (purse 7003 => fail)))
  | ((with_reducible refine' use_draw ?a0 ?a1 ?a2 ?a3 ?a4 ?_); (case a0 => assumption); (case a1 => intro _ _; (purse 7005 => fail)); (case a2 => assumption); (case a3 => (purse 7011 => fail)); (case a4 => (purse 7011 => fail)); intro _ _ _ _ _ _ _ _)
  | ((with_reducible refine' use_giveI ?a0 ?a1 ?a2 ?_); (case a0 => assumption); (case a1 => intro _ _; (purse 7005 => fail)); (case a2 => assumption); intro _ _ _ _ _ _ _ _)
  | ((with_reducible refine' use_source ?a0 ?a1 ?_); (case a0 => assumption); (case a1 => k_dflt (assumption)); intro _ _ _ _ _ _)
  | (with_reducible refine g_absN ?_; intro _ _)
  | (with_reducible refine g_maxN ?_; intro _ _ _ _)
  | (with_reducible refine g_minN ?_; intro _ _ _ _)
  | ((with_reducible refine' g_kR1 ?a0 ?a1 ?_); (case a0 => omega); (case a1 => omega))
  | ((with_reducible refine' g_neD ?a0 ?a1 ?a2 ?_); (case a0 => (purse 7010 => fail)); (case a1 => (purse 7010 => fail)); (case a2 => k_dflt (rfl)))
  | ((with_reducible refine' g_eqD ?a0 ?a1 ?a2 ?_); (case a0 => (purse 7010 => fail)); (case a1 => (purse 7010 => fail)); (case a2 => k_dflt (rfl)))
  | ((with_reducible refine' g_klst ?a0 ?a1 ?_); (case a0 => assumption); (case a1 => k_dflt (exact rfl)); intro _ _ _ _)
  | ((with_reducible refine' g_ktup ?a0 ?a1 ?_); (case a0 => assumption); (case a1 => k_dflt (exact rfl)); intro _ _ _ _)
  | ((with_reducible refine' g_setL ?a0 ?a1 ?a2 ?_); (case a0 => assumption); (case a1 => (purse 7005 => fail)); (case a2 => k_dflt (exact rfl)); intro _ _)
  | ((with_reducible refine' g_unl3 ?a0 ?_); (case a0 => (purse 7003 => fail)))
  | (purse 7001 => fail))
local macro_rules | `(tactic| purse 7012 => fail) => `(tactic| ((try (with_reducible refine start_go ?_)); repeat (purse 7002 => fail)))
local macro_rules | `(tactic| purse 7013 => fail) => `(tactic| first | rfl | (refine decide_eq_true ?_; omega) | (simp only [Bool.not_eq_true', Bool.not_eq_false', decide_eq_false_iff_not, decide_eq_true_eq, Bool.not_not, decide_eq_decide]; done) | (simp only [Bool.not_eq_true', Bool.not_eq_false', decide_eq_false_iff_not, decide_eq_true_eq, Bool.not_not, decide_eq_decide]; omega))
local macro_rules | `(tactic| purse 7014 => fail) => `(tactic| first | rfl | (refine decide_eq_false ?_; omega) | (simp only [Bool.not_eq_true', Bool.not_eq_false', decide_eq_false_iff_not, decide_eq_true_eq, Bool.not_not, decide_eq_decide]; done) | (simp only [Bool.not_eq_true', Bool.not_eq_false', decide_eq_false_iff_not, decide_eq_true_eq, Bool.not_not, decide_eq_decide]; omega))
local macro_rules | `(tactic| purse 7015 => fail) => `(tactic| ((refine g_yes ?h ?_); (case h => (purse 7013 => fail))))
local macro_rules | `(tactic| purse 7016 => fail) => `(tactic| ((refine g_no ?h ?_); (case h => (purse 7014 => fail))))
local macro_rules | `(tactic| purse 7017 => fail) => `(tactic| first | (purse 7015 => fail) | (purse 7016 => fail))
local macro_rules | `(tactic| purse 7018 => fail) => `(tactic| repeat ((purse 7012 => fail); (purse 7017 => fail)))
local macro_rules | `(tactic| purse 7019 => fail) => `(tactic| repeat (first | exact intIn_nil | refine intIn_cons (by omega) (by omega) ?_))
local macro_rules | `(tactic| purse 7020 => fail) => `(tactic| (simp only [List.length_cons, List.length_nil]; omega))
local macro_rules | `(tactic| purse 7021 => fail) => `(tactic| (refine g_two (fun c => ?_) (fun c => ?_) <;> first | (have c := of_decide_eq_true c) | (have c := of_decide_eq_false c) | skip))
local macro_rules | `(tactic| purse 7022 => fail) => `(tactic| ((purse 7018 => fail); (purse 7012 => fail); try ((purse 7021 => fail) <;> (purse 7022 => fail))))

/-! sets of counts: the methods *-/
def spMkR (C : Addr) : Sp := fun vs H Q E => ∃ ws rest, vs = ws ++ rest ∧ ws.length = ["self"].length ∧ rest.length ≤ sizeLine ∧ ∀ p, H p = Option.none → spMk C (ws ++ [V.ref p]) (upd H p (.tup rest)) Q E
theorem newS_up {C : Addr} {P : Int → Prop} {n : Nat} {H H1 : Hp} {Q : VK} (u : Up H H1) (k : NewS C P n H Q) : NewS C P n H1 Q := fun x H' c hx u' s cn sm ln => k x H' c (by
  cases e : H x with
  | none => rfl
  | some o => rw [u _ _ e] at hx; cases hx) (u.trans u') s cn sm ln
theorem newS_imp {C : Addr} {P P' : Int → Prop} {n n' : Nat} {H : Hp} {Q : VK} (e : ∀ y, P y ↔ P' y) (hn : n ≤ n') (k : NewS C P' n' H Q) : NewS C P n H Q := fun x H' c hx u' s cn sm ln => k x H' c hx u' s cn (fun y => (sm y).trans (e y)) (Nat.le_trans ln hn)
theorem g_mk {C : Addr} {H : Hp} {ws : List V} {l : List Pr} {Q : VK} {E : XK} (hp : PrL H ws l) (ho : ∀ p, p ∈ l → Ok p) (hn : l.length ≤ 900) (k : NewS C (fun y => sem l y) l.length H Q) : kMake C (spMkR C) E Q ws H := by
  intro x dx hx hdx hne
  have u1 : Up H (upd H dx (.own x)) := Up.new hdx
  have h1 : upd H dx (.own x) x = none := by rw [upd_ne (fun z => hne z.symm)]; exact hx
  have u2 : Up H (upd (upd H dx (.own x)) x (.ins C dx [])) := u1.trans (Up.new h1)
  have hx2 : upd (upd H dx (.own x)) x (.ins C dx []) x = some (.ins C dx []) := upd_same
  generalize upd (upd H dx (.own x)) x (.ins C dx []) = H2 at u2 hx2 ⊢
  refine ⟨[.ref x], ws, rfl, rfl, by rw [hp.len]; exact Nat.le_of_lt (line1000 (by omega)), fun p hpn => ?_⟩
  have u3 : Up H2 (upd H2 p (.tup ws)) := Up.new hpn
  refine ⟨x, dx, p, l, rfl, u3 _ _ hx2, ⟨ws, upd_same, hp.up (u2.trans u3)⟩, ho, hn, fun H' r c ux hx' tp cn sm ln => ⟨rfl, ?_⟩⟩
  refine k x H' c hx (fun b o e => ?_) ⟨dx, r, hx', tp⟩ cn sm ln
  exact ux b o (fun z => by rw [z] at e; rw [hx] at e; cases e) (u3 _ _ (u2 _ _ e))
def spEver (C : Addr) : Sp := fun vs H Q _ => vs = [] ∧ NewS C (fun y => 0 ≤ y) 1 H Q
def spTwo (C : Addr) (P : List Pr → List Pr → Int → Prop) : Sp := fun vs H Q _ => ∃ (a b : Addr) (la lb : List Pr), vs = [.ref a, .ref b] ∧ Ss C H a la ∧ Ss C H b lb ∧ Canon la ∧ Canon lb ∧ la.length + lb.length ≤ 800 ∧ NewS C (P la lb) (la.length + lb.length + 1) H Q
def spLe (C : Addr) : Sp := fun vs H Q _ => ∃ (a b : Addr) (la lb : List Pr), vs = [.ref a, .ref b] ∧ Ss C H a la ∧ Ss C H b lb ∧ Canon la ∧ Canon lb ∧ la.length + lb.length ≤ 800 ∧ ∀ k H', Up H H' → (k = true ↔ ∀ y, sem la y → sem lb y) → Q (.bl k) H'
def spEqS (C : Addr) : Sp := fun vs H Q _ => ∃ (a b : Addr) (la lb : List Pr), vs = [.ref a, .ref b] ∧ Ss C H a la ∧ Ss C H b lb ∧ Q (.bl (decide (la = lb))) H
def spBoolS (C : Addr) : Sp := fun vs H Q _ => ∃ (a : Addr) (la : List Pr), vs = [.ref a] ∧ Ss C H a la ∧ Q (.bl (!la.isEmpty)) H
def spEnd (C : Addr) : Sp := fun vs H Q _ => ∃ (a : Addr) (la : List Pr), vs = [.ref a] ∧ Ss C H a la ∧ Canon la ∧ ∀ k, (k = true ↔ Ended la) → Q (.bl k) H
def spCountS (C : Addr) : Sp := fun vs H Q _ => ∃ (a : Addr) (la : List Pr), vs = [.ref a] ∧ Ss C H a la ∧ Canon la ∧ la.length ≤ 900 ∧ Ended la ∧ ∀ H', Up H H' → Q (.int (sumc la)) H'
def spSpread (C : Addr) : Sp := fun vs H Q _ => ∃ (a : Addr) (la : List Pr) (k u : Int), vs = [.ref a, .int k, .int u] ∧ Ss C H a la ∧ Canon la ∧ 0 ≤ k ∧ k ≤ u ∧ la.length ≤ 800 ∧ NewS C (fun x => ∃ y, sem la y ∧ k ≤ x - y ∧ x - y ≤ u) la.length H Q
def spAddS (C : Addr) : Sp := fun vs H Q _ => ∃ (a : Addr) (la : List Pr) (k : Int), vs = [.ref a, .int k] ∧ Ss C H a la ∧ Canon la ∧ 0 ≤ k ∧ la.length ≤ 800 ∧ NewS C (fun x => ∃ y, sem la y ∧ k ≤ x - y ∧ x - y ≤ k) la.length H Q
def spBelow (C : Addr) : Sp := fun vs H Q _ => ∃ (a : Addr) (la : List Pr) (b : Int), vs = [.ref a, .int b] ∧ Ss C H a la ∧ Canon la ∧ 0 ≤ b ∧ la.length ≤ 700 ∧ NewS C (fun x => sem la x ∧ x < b) (la.length + 2) H Q
def pAnd (a b : List Pr) (y : Int) : Prop := sem a y ∧ sem b y
def pOr (a b : List Pr) (y : Int) : Prop := sem a y ∨ sem b y
def pSub (a b : List Pr) (y : Int) : Prop := sem a y ∧ ¬ sem b y
section
open He
variable {P : Program} {w : World} {K : PySem.W.Frag} {mg : Str → Option Value} {base : Heap} {f : Addr} {fd : FuncData}
--@@FI
theorem ok_and (F : FnP K "__and__" "Stretches.__and__" s_Stretches___and__ f fd) (T : TQ K w mg) (D_kept_of : Dn P w K mg base 2 (ga K "kept_of") ["value"] (spKept (ga K "Stretches"))) (D_common : Dn P w K mg base 6 (ga K "common") ["one", "other"] spCommon) (M_Stretches : Ms P w K mg base 8 (ga K "Stretches") (spMkR (ga K "Stretches"))) :
    FnOk P w K mg base (L2.CX P w) 12 f fd ["self", "other"] (spTwo (ga K "Stretches") pAnd) := by
  refine F.ok c_Stretches___and__ (fun vs H Q E h => ?_) (fun cdv A outer s H vs Q E hr h => ⟨_, pss_cons (ps_set (i := 2) c_Stretches___and__.nd rfl (Or.inl rfl) (pe_dn D_common (rm hr) rfl T.g_common (passes_call (takes_of rfl rfl rfl rfl) fun _ _ _ _ h => h) (pa_cons (pe_fld (pv 0) rfl) (pa_cons (pe_dn D_kept_of (rm hr) rfl T.g_kept_of (passes_call (takes_of rfl rfl rfl rfl) fun _ _ _ _ h => h) (pa_cons (pv 1) (pa_nil))) (pa_nil)))))
      (pss_one (ps_ret (pe_mkS M_Stretches (rm hr) rfl T.g_Stretches (passes_call (takes_of rfl rfl rfl rfl) fun _ _ _ _ h => h) (pv 2)))), ?_⟩)
  · obtain ⟨a, b, la, lb, rfl, _⟩ := h
    rfl
  · obtain ⟨a, b, la, lb, rfl, ⟨dx, t, hx, ht⟩, ⟨dy, t', hy, ht'⟩, ca, cb, hn, k⟩ := h
    (purse 7012 => fail)
    refine g_kfld (K := K) hx T.cl T.nK rfl ?_
    (purse 7012 => fail)
    refine ⟨b, dy, t', rfl, hy, ?_⟩
    (purse 7012 => fail)
    refine ⟨t, t', la, lb, rfl, .inl ht, .inl ht', by omega, fun r H' hr' u lp => ?_⟩
    obtain ⟨ws, hr2, hp⟩ := lp
    have co := ST.com_ok la lb ca cb
    have cl := com_len la lb
    (purse 7012 => fail)
    refine ⟨r, ws, rfl, .inr (SqL.of hr2), g_mk hp co.2 (by omega) (newS_imp co.1 (by omega) (newS_up u k))⟩
theorem ok_or (F : FnP K "__or__" "Stretches.__or__" s_Stretches___or__ f fd) (T : TQ K w mg) (D_kept_of : Dn P w K mg base 2 (ga K "kept_of") ["value"] (spKept (ga K "Stretches"))) (M_Stretches : Ms P w K mg base 8 (ga K "Stretches") (spMkR (ga K "Stretches"))) :
    FnOk P w K mg base (L2.CX P w) 12 f fd ["self", "other"] (spTwo (ga K "Stretches") pOr) := by
  refine F.ok c_Stretches___or__ (fun vs H Q E h => ?_) (fun cdv A outer s H vs Q E hr h => ⟨_, pss_cons (ps_set (i := 2) c_Stretches___or__.nd rfl (Or.inl rfl) (pe_op op_catA (pe_fld (pv 0) rfl) (pe_dn D_kept_of (rm hr) rfl T.g_kept_of (passes_call (takes_of rfl rfl rfl rfl) fun _ _ _ _ h => h) (pa_cons (pv 1) (pa_nil)))))
      (pss_one (ps_ret (pe_mkS M_Stretches (rm hr) rfl T.g_Stretches (passes_call (takes_of rfl rfl rfl rfl) fun _ _ _ _ h => h) (pv 2)))), ?_⟩)
  · obtain ⟨a, b, la, lb, rfl, _⟩ := h
    rfl
  · obtain ⟨a, b, la, lb, rfl, ⟨dx, t, hx, ⟨vs, ht, hp⟩⟩, ⟨dy, t', hy, ⟨ws, ht', hp'⟩⟩, ca, cb, hn, k⟩ := h
    have ho : ∀ p, p ∈ la ++ lb → Ok p := fun p h => (List.mem_append.mp h).elim (ca.oks p) (cb.oks p)
    have hl : (la ++ lb).length ≤ 900 := by rw [List.length_append]; omega
    have k' : NewS (ga K "Stretches") (fun y => sem (la ++ lb) y) (la ++ lb).length H Q := newS_imp (fun y => ST.sem_append) (by rw [List.length_append]; omega) k
    have h1 := hp.len
    have h2 := hp'.len
    have e3 : sizeLine = 16777216 := sizeLine_eq
    (purse 7012 => fail)
    refine g_kfld (K := K) hx T.cl T.nK rfl ?_
    (purse 7012 => fail)
    refine ⟨b, dy, t', rfl, hy, ?_⟩
    refine ⟨t, t', vs, ws, rfl, rfl, SqT.of ht, SqT.of ht', by omega, fun e => ?_, fun e1 e2 => ?_, fun e1 e2 r hr' => ?_⟩
    · (purse 7012 => fail)
      subst e
      cases hp
      exact ⟨t', ws, rfl, .inl (SqT.of ht'), g_mk hp' ho hl k'⟩
    · (purse 7012 => fail)
      subst e2
      cases hp'
      refine ⟨t, vs, rfl, .inl (SqT.of ht), g_mk (by rw [List.append_nil]; exact hp) ho hl k'⟩
    · (purse 7012 => fail)
      have u := Up.new (o := .tup (vs ++ ws)) hr'
      exact ⟨r, vs ++ ws, rfl, .inl (SqT.of upd_same), g_mk ((hp.append hp').up u) ho hl (newS_up u k')⟩
theorem ok_sub (F : FnP K "__sub__" "Stretches.__sub__" s_Stretches___sub__ f fd) (T : TQ K w mg) (D_kept_of : Dn P w K mg base 2 (ga K "kept_of") ["value"] (spKept (ga K "Stretches"))) (D_gaps : Dn P w K mg base 6 (ga K "gaps") ["pairs"] spGaps) (D_common : Dn P w K mg base 6 (ga K "common") ["one", "other"] spCommon) (M_Stretches : Ms P w K mg base 8 (ga K "Stretches") (spMkR (ga K "Stretches"))) :
    FnOk P w K mg base (L2.CX P w) 12 f fd ["self", "other"] (spTwo (ga K "Stretches") pSub) := by
  refine F.ok c_Stretches___sub__ (fun vs H Q E h => ?_) (fun cdv A outer s H vs Q E hr h => ⟨_, pss_cons (ps_set (i := 2) c_Stretches___sub__.nd rfl (Or.inl rfl) (pe_dn D_common (rm hr) rfl T.g_common (passes_call (takes_of rfl rfl rfl rfl) fun _ _ _ _ h => h) (pa_cons (pe_fld (pv 0) rfl) (pa_cons (pe_dn D_gaps (rm hr) rfl T.g_gaps (passes_call (takes_of rfl rfl rfl rfl) fun _ _ _ _ h => h) (pa_cons (pe_dn D_kept_of (rm hr) rfl T.g_kept_of (passes_call (takes_of rfl rfl rfl rfl) fun _ _ _ _ h => h) (pa_cons (pv 1) (pa_nil))) (pa_nil))) (pa_nil)))))
      (pss_one (ps_ret (pe_mkS M_Stretches (rm hr) rfl T.g_Stretches (passes_call (takes_of rfl rfl rfl rfl) fun _ _ _ _ h => h) (pv 2)))), ?_⟩)
  · obtain ⟨a, b, la, lb, rfl, _⟩ := h
    rfl
  · obtain ⟨a, b, la, lb, rfl, ⟨dx, t, hx, ht⟩, ⟨dy, t', hy, ht'⟩, ca, cb, hn, k⟩ := h
    have cg := (ST.gp_canon lb 0 cb (Int.le_refl _) fun x s => cb.nn s).1
    have sg := (ST.gaps_ok cb).1
    have lg := gp_len lb 0
    have co := ST.com_ok la (gp 0 lb) ca cg
    have cl := com_len la (gp 0 lb)
    (purse 7012 => fail)
    refine g_kfld (K := K) hx T.cl T.nK rfl ?_
    (purse 7012 => fail)
    refine ⟨b, dy, t', rfl, hy, ?_⟩
    (purse 7012 => fail)
    refine ⟨t', lb, rfl, ht', by omega, fun g H1 hg u1 lg1 => ?_⟩
    (purse 7012 => fail)
    refine ⟨t, g, la, gp 0 lb, rfl, .inl (ht.up u1), .inr lg1, by omega, fun r H' hr' u lp => ?_⟩
    obtain ⟨ws, hr2, hp⟩ := lp
    (purse 7012 => fail)
    refine ⟨r, ws, rfl, .inr (SqL.of hr2), g_mk hp co.2 (by omega) (newS_imp (fun y => (co.1 y).trans ?_) (by omega) (newS_up (u1.trans u) k))⟩
    rw [sg y]
    exact ⟨fun h => ⟨h.1, h.2.2⟩, fun h => ⟨h.1, ca.nn h.1, h.2⟩⟩
theorem ok_le (F : FnP K "__le__" "Stretches.__le__" s_Stretches___le__ f fd) (T : TQ K w mg) (D_kept_of : Dn P w K mg base 2 (ga K "kept_of") ["value"] (spKept (ga K "Stretches"))) (D_gaps : Dn P w K mg base 6 (ga K "gaps") ["pairs"] spGaps) (D_common : Dn P w K mg base 6 (ga K "common") ["one", "other"] spCommon) :
    FnOk P w K mg base (L2.CX P w) 12 f fd ["self", "other"] (spLe (ga K "Stretches")) := by
  refine F.ok c_Stretches___le__ (fun vs H Q E h => ?_) (fun cdv A outer s H vs Q E hr h => ⟨_, pss_one (ps_ret (pe_notT (pe_dn D_common (rm hr) rfl T.g_common (passes_call (takes_of rfl rfl rfl rfl) fun _ _ _ _ h => h) (pa_cons (pe_fld (pv 0) rfl) (pa_cons (pe_dn D_gaps (rm hr) rfl T.g_gaps (passes_call (takes_of rfl rfl rfl rfl) fun _ _ _ _ h => h) (pa_cons (pe_dn D_kept_of (rm hr) rfl T.g_kept_of (passes_call (takes_of rfl rfl rfl rfl) fun _ _ _ _ h => h) (pa_cons (pv 1) (pa_nil))) (pa_nil))) (pa_nil)))))), ?_⟩)
  · obtain ⟨a, b, la, lb, rfl, _⟩ := h
    rfl
  · obtain ⟨a, b, la, lb, rfl, ⟨dx, t, hx, ht⟩, ⟨dy, t', hy, ht'⟩, ca, cb, hn, k⟩ := h
    have cg := (ST.gp_canon lb 0 cb (Int.le_refl _) fun x s => cb.nn s).1
    have sg := (ST.gaps_ok cb).1
    have lg := gp_len lb 0
    have co := ST.com_ok la (gp 0 lb) ca cg
    (purse 7012 => fail)
    refine g_kfld (K := K) hx T.cl T.nK rfl ?_
    (purse 7012 => fail)
    refine ⟨b, dy, t', rfl, hy, ?_⟩
    (purse 7012 => fail)
    refine ⟨t', lb, rfl, ht', by omega, fun g H1 hg u1 lg1 => ?_⟩
    (purse 7012 => fail)
    refine ⟨t, g, la, gp 0 lb, rfl, .inl (ht.up u1), .inr lg1, by omega, fun r H' hr' u lp => ?_⟩
    obtain ⟨ws, hr2, hp⟩ := lp
    refine ⟨!ws.isEmpty, .inl ⟨ws, SqL.of hr2, rfl⟩, k _ H' (u1.trans u) ?_⟩
    have hl := hp.len
    have e : ws.isEmpty = true ↔ com la (gp 0 lb) = [] := by
      rw [List.isEmpty_iff, ← List.length_eq_zero_iff, hl, List.length_eq_zero_iff]
    rw [Bool.not_not, e, com_empty co.2]
    constructor
    · intro h y hy
      apply Classical.byContradiction
      intro hn
      exact h y ((co.1 y).mpr ⟨hy, (sg y).mpr ⟨ca.nn hy, hn⟩⟩)
    · intro h y hy
      have := (co.1 y).mp hy
      exact ((sg y).mp this.2).2 (h y this.1)
theorem ok_eq (F : FnP K "__eq__" "Stretches.__eq__" s_Stretches___eq__ f fd) (T : TQ K w mg) : FnOk P w K mg base (L2.CX P w) 4 f fd ["self", "other"] (spEqS (ga K "Stretches")) := by
  refine F.ok c_Stretches___eq__ (fun vs H Q E h => ?_) (fun cdv A outer s H vs Q E hr h => ⟨_, pss_one (ps_ret (pe_and (pe_callB call_isi (by rfl) T.z_isinstance (by decide +kernel) (pa_cons (pv 1) (pa_cons (pe_glob (v := .ref _) rfl T.g_Stretches rfl) (pa_nil)))) (pe_one (pe_cmpR (op_eqD hr.units) (pe_fld (pv 0) rfl) (pe_fld (pv 1) rfl) (nomark _))))), ?_⟩)
  · obtain ⟨a, b, la, lb, rfl, _⟩ := h
    rfl
  · obtain ⟨a, b, la, lb, rfl, ⟨dx, t, hx, ht⟩, ⟨dy, t', hy, ht'⟩, k⟩ := h
    (purse 7012 => fail)
    refine g_isi (.own _) (.base (.ins hy T.ic.cl T.ic.ha T.ic.hn T.ic.htk T.ic.hm)) T.ic.me ?_
    (purse 7012 => fail)
    (purse 7015 => fail)
    (purse 7012 => fail)
    refine g_kfld (K := K) hx T.cl T.nK rfl ?_
    (purse 7012 => fail)
    refine g_kfld (K := K) hy T.cl T.nK rfl ?_
    exact g_eqP ht ht' k
theorem ok_boolS (F : FnP K "__bool__" "Stretches.__bool__" s_Stretches___bool__ f fd) (T : TQ K w mg) : FnOk P w K mg base (L2.CX P w) 4 f fd ["self"] (spBoolS (ga K "Stretches")) := by
  refine F.ok c_Stretches___bool__ (fun vs H Q E h => ?_) (fun cdv A outer s H vs Q E hr h => ⟨_, pss_one (ps_ret (pe_callTy cl_boolT (by rfl) T.z_bool (by decide +kernel) (pa_cons (pe_fld (pv 0) rfl) (pa_nil)))), ?_⟩)
  · obtain ⟨a, la, rfl, _⟩ := h
    rfl
  · obtain ⟨a, la, rfl, ⟨dx, t, hx, ⟨vs, ht, hp⟩⟩, k⟩ := h
    (purse 7012 => fail)
    refine g_kfld (K := K) hx T.cl T.nK rfl ?_
    (purse 7012 => fail)
    refine ⟨t, vs, rfl, SqT.of ht, ?_⟩
    have e : vs.isEmpty = la.isEmpty := by cases hp <;> rfl
    rw [e]
    exact k
end

end K1
namespace K1
open PySem PySem.Spec PyProof.Rows L2 AF
open C8 (pe_gc)
open He
open ST (Pr Ok sem Canon com gp early plus spr saB en res sumc Ended)
local macro_rules | `(tactic| purse 7003 => fail) => `(tactic| k_dflt (refine Sh.has_ (by assumption) ?_; repeat (first | exact On.here | apply On.next)))
local macro_rules | `(tactic| purse 7004 => fail) => `(tactic| k_dflt (repeat (first | exact On.here | apply On.next)))
local macro_rules | `(tactic| purse 7005 => fail) => `(tactic| (repeat (first | exact Rep.here | apply Rep.next)))
local macro_rules | `(tactic| purse 7006 => fail) => `(tactic| (exact Sh.out (by assumption) (fun b h => by simp [h])))
local macro_rules | `(tactic| purse 7007 => fail) => `(tactic| k_dflt (first | ((with_reducible refine cdivw ?_ ?_) <;> omega) | ((with_reducible show CDiv _ _); constructor <;> omega) | ((with_reducible show CMul _ _); (first | (left; constructor <;> omega) | (right; constructor <;> omega))) | (show (0 : Int) < _; omega)))
local macro_rules | `(tactic| purse 7008 => fail) => `(tactic| first | exact Kd.int _ | exact Kd.bl _ | exact Kd.non | exact Kd.str _ | exact Kd.ins (by (purse 7003 => fail)) | exact Kd.lst (by (purse 7003 => fail)) | exact Kd.tup (by (purse 7003 => fail)))
local macro_rules | `(tactic| purse 7009 => fail) => `(tactic| first | exact DpAll.nil | (apply DpAll.cons; (purse 7010 => fail); (purse 7009 => fail)))
local macro_rules | `(tactic| purse 7010 => fail) => `(tactic| first | exact Dp.int _ | exact Dp.bl _ | exact Dp.non | exact Dp.str _ | (refine dp_int ?_; omega) | (refine dp_bl ?_; simp only [decide_eq_decide]; omega) | (apply dp_lst; (purse 7003 => fail); (purse 7009 => fail)) | (apply dp_tup; (purse 7003 => fail); (purse 7009 => fail)))
local macro_rules | `(tactic| purse 7011 => fail) => `(tactic| first | assumption | omega)
local macro_rules | `(tactic| purse 7001 => fail) => `(tactic| fail "no use")
local macro_rules | `(tactic| purse 7002 => fail) => `(tactic| first
  | (with_reducible refine set_go ?_)
  | (with_reducible refine Step.go ?_)
  | (with_reducible first | refine g_pow10_6 ?_ | refine g_pow10_7 ?_ | refine g_pow10_18 ?_ | refine g_pow10_29 ?_ | refine g_pow10_30 ?_)
  | ((with_reducible refine' g_I ?a0 ?_); (case a0 => (purse 7007 => fail)))
  | ((with_reducible refine' g_ixL ?a0 ?a1 ?_); (case a0 => (purse 7003 => fail)); (case a1 => k_dflt (exact rfl)))
  | ((with_reducible refine' g_kfld ?a0 ?a1 ?a2 ?a3 ?_); (case a0 => (purse 7003 => fail)); (case a1 => k_dflt (assumption)); (case a2 => k_dflt (assumption)); (case a3 => k_dflt (exact rfl)))
  | ((with_reducible refine' g_kprop ?a0 ?_); (case a0 => (purse 7003 => fail)))
  | ((with_reducible refine' g_kmeth ?a0 ?a1 ?_); (case a0 => (purse 7003 => fail)); (case a1 => k_dflt (exact rfl)))
  | ((with_reducible refine' g_own ?a0 ?a1 ?a2 ?_); (case a0 => (purse 7003 => fail)); (case a1 => (purse 7008 => fail)); (case a2 => k_dflt (assumption)))
  | ((with_reducible refine' g_cmp ?a0 ?a1 ?a2 ?_); (case a0 => (purse 7003 => fail)); (case a1 => (purse 7008 => fail)); (case a2 => k_dflt (assumption)))
  | ((with_reducible refine' g_neq ?a0 ?a1 ?a2 ?_); (case a0 => (purse 7003 => fail)); (case a1 => (purse 7008 => fail)); (case a2 => k_dflt (assumption)))
  | ((with_reducible refine' g_right ?a0 ?_); (case a0 => (purse 7003 => fail)))
  | ((with_reducible refine' use_draw ?a0 ?a1 ?a2 ?a3 ?a4 ?_); (case a0 => assumption); (case a1 => intro _ _; (purse 7005 => fail)); (case a2 => assumption); (case a3 => (purse 7011 => fail)); (case a4 => (purse 7011 => fail)); intro _ _ _ _ _ _ _ _)
  | ((with_reducible refine' use_giveI ?a0 ?a1 ?a2 ?_); (case a0 => assumption); (case a1 => intro _ _; (purse 7005 => fail)); (case a2 => assumption); intro _ _ _ _ _ _ _ _)
  | ((with_reducible refine' use_source ?a0 ?a1 ?_); (case a0 => assumption); (case a1 => k_dflt (assumption)); intro _ _ _ _ _ _)
  | (with_reducible refine g_absN ?_; intro _ _)
  | (with_reducible refine g_maxN ?_; intro _ _ _ _)
  | (with_reducible refine g_minN ?_; intro _ _ _ _)
  | ((with_reducible refine' g_kR1 ?a0 ?a1 ?_); (case a0 => omega); (case a1 => omega))
  | ((with_reducible refine' g_neD ?a0 ?a1 ?a2 ?_); (case a0 => (purse 7010 => fail)); (case a1 => (purse 7010 => fail)); (case a2 => k_dflt (rfl)))
  | ((with_reducible refine' g_eqD ?a0 ?a1 ?a2 ?_); (case a0 => (purse 7010 => fail)); (case a1 => (purse 7010 => fail)); (case a2 => k_dflt (rfl)))
  | ((with_reducible refine' g_klst ?a0 ?a1 ?_); (case a0 => assumption); (case a1 => k_dflt (exact rfl)); intro _ _ _ _)
  | ((with_reducible refine' g_ktup ?a0 ?a1 ?_); (case a0 => assumption); (case a1 => k_dflt (exact rfl)); intro _ _ _ _)
  | ((with_reducible refine' g_setL ?a0 ?a1 ?a2 ?_); (case a0 => assumption); (case a1 => (purse 7005 => fail)); (case a2 => k_dflt (exact rfl)); intro _ _)
  | ((with_reducible refine' g_unl3 ?a0 ?_); (case a0 => (purse 7003 => fail)))
  | (purse 7001 => fail))
local macro_rules | `(tactic| purse 7012 => fail) => `(tactic| ((try (with_reducible refine start_go ?_)); repeat (purse 7002 => fail)))
local macro_rules | `(tactic| purse 7013 => fail) => `(tactic| first | rfl | (refine decide_eq_true ?_; omega) | (simp only [Bool.not_eq_true', Bool.not_eq_false', decide_eq_false_iff_not, decide_eq_true_eq, Bool.not_not, decide_eq_decide]; done) | (simp only [Bool.not_eq_true', Bool.not_eq_false', decide_eq_false_iff_not, decide_eq_true_eq, Bool.not_not, decide_eq_decide]; omega))
local macro_rules | `(tactic| purse 7014 => fail) => `(tactic| first | rfl | (refine decide_eq_false ?_; omega) | (simp only [Bool.not_eq_true', Bool.not_eq_false', decide_eq_false_iff_not, decide_eq_true_eq, Bool.not_not, decide_eq_decide]; done) | (simp only [Bool.not_eq_true', Bool.not_eq_false', decide_eq_false_iff_not, decide_eq_true_eq, Bool.not_not, decide_eq_decide]; omega))
local macro_rules | `(tactic| purse 7015 => fail) => `(tactic| ((refine g_yes ?h ?_); (case h => (purse 7013 => fail))))
local macro_rules | `(tactic| purse 7016 => fail) => `(tactic| ((refine g_no ?h ?_); (case h => (purse 7014 => fail))))
local macro_rules | `(tactic| purse 7017 => fail) => `(tactic| first | (purse 7015 => fail) | (purse 7016 => fail))
local macro_rules | `(tactic| purse 7018 => fail) => `(tactic| repeat ((purse 7012 => fail); (purse 7017 => fail)))
local macro_rules | `(tactic| purse 7019 => fail) => `(tactic| repeat (first | exact intIn_nil | refine intIn_cons (by omega) (by omega) ?_))
local macro_rules | `(tactic| purse 7020 => fail) => `(tactic| (simp only [List.length_cons, List.length_nil]; omega))
local macro_rules | `(tactic| purse 7021 => fail) => `(tactic| (refine g_two (fun c => ?_) (fun c => ?_) <;> first | (have c := of_decide_eq_true c) | (have c := of_decide_eq_false c) | skip))
local macro_rules | `(tactic| purse 7022 => fail) => `(tactic| ((purse 7018 => fail); (purse 7012 => fail); try ((purse 7021 => fail) <;> (purse 7022 => fail))))

/-! operators beside any data; sums; one count *-/
def spOpE (C C2 : Addr) : Sp := fun vs H _ E => ∃ (a dx t : Addr) (v : V) (d : PyData), vs = [.ref a, v] ∧ H a = some (.ins C dx (kp t)) ∧ Pv H v d ∧ Err C2 "index" .non H E
def spSpreadE (C C2 : Addr) : Sp := fun vs H _ E => ∃ (a dx t : Addr) (v u : V) (d e : PyData), vs = [.ref a, v, u] ∧ H a = some (.ins C dx (kp t)) ∧ Pv H v d ∧ Pv H u e ∧ pairB (.tuple [d, e]) = false ∧ Err C2 "index" .non H E
def spAddE (C C2 : Addr) : Sp := fun vs H _ E => ∃ (a dx t : Addr) (v : V) (d : PyData), vs = [.ref a, v] ∧ H a = some (.ins C dx (kp t)) ∧ Pv H v d ∧ pairB (.tuple [d, d]) = false ∧ Err C2 "index" .non H E
def spMkRE (C C2 : Addr) : Sp := fun vs H Q E => ∃ ws rest, vs = ws ++ rest ∧ ws.length = ["self"].length ∧ rest.length ≤ sizeLine ∧ ∀ p, H p = Option.none → spMkE C C2 (ws ++ [V.ref p]) (upd H p (.tup rest)) Q E
section
open He
variable {P : Program} {w : World} {K : PySem.W.Frag} {mg : Str → Option Value} {base : Heap} {f : Addr} {fd : FuncData}
theorem ok_andE (F : FnP K "__and__" "Stretches.__and__" s_Stretches___and__ f fd) (T : TQ K w mg) (D_kept_of : Dn P w K mg base 6 (ga K "kept_of") ["value"] (spKeptE (ga K "NoStretch"))) (D_common : Dn P w K mg base 6 (ga K "common") ["one", "other"] spCommon) (M_Stretches : Ms P w K mg base 8 (ga K "Stretches") (spMkR (ga K "Stretches"))) : FnOk P w K mg base (L2.CX P w) 12 f fd ["self", "other"] (spOpE (ga K "Stretches") (ga K "NoStretch")) := by
  refine F.ok c_Stretches___and__ (fun vs H Q E h => ?_) (fun cdv A outer s H vs Q E hr h => ⟨_, pss_cons (ps_set (i := 2) c_Stretches___and__.nd rfl (Or.inl rfl) (pe_dn D_common (rm hr) rfl T.g_common (passes_call (takes_of rfl rfl rfl rfl) fun _ _ _ _ h => h) (pa_cons (pe_fld (pv 0) rfl) (pa_cons (pe_dn D_kept_of (rm hr) rfl T.g_kept_of (passes_call (takes_of rfl rfl rfl rfl) fun _ _ _ _ h => h) (pa_cons (pv 1) (pa_nil))) (pa_nil)))))
      (pss_one (ps_ret (pe_mkS M_Stretches (rm hr) rfl T.g_Stretches (passes_call (takes_of rfl rfl rfl rfl) fun _ _ _ _ h => h) (pv 2)))), ?_⟩)
  · obtain ⟨a, dx, t, v, d, rfl, _⟩ := h
    rfl
  · obtain ⟨a, dx, t, v, d, rfl, hx, hp, er⟩ := h
    (purse 7012 => fail)
    refine g_kfld (K := K) hx T.cl T.nK rfl ?_
    (purse 7012 => fail)
    exact ⟨v, d, rfl, hp, er⟩
theorem ok_orE (F : FnP K "__or__" "Stretches.__or__" s_Stretches___or__ f fd) (T : TQ K w mg) (D_kept_of : Dn P w K mg base 6 (ga K "kept_of") ["value"] (spKeptE (ga K "NoStretch"))) (M_Stretches : Ms P w K mg base 8 (ga K "Stretches") (spMkR (ga K "Stretches"))) : FnOk P w K mg base (L2.CX P w) 12 f fd ["self", "other"] (spOpE (ga K "Stretches") (ga K "NoStretch")) := by
  refine F.ok c_Stretches___or__ (fun vs H Q E h => ?_) (fun cdv A outer s H vs Q E hr h => ⟨_, pss_cons (ps_set (i := 2) c_Stretches___or__.nd rfl (Or.inl rfl) (pe_op op_catA (pe_fld (pv 0) rfl) (pe_dn D_kept_of (rm hr) rfl T.g_kept_of (passes_call (takes_of rfl rfl rfl rfl) fun _ _ _ _ h => h) (pa_cons (pv 1) (pa_nil)))))
      (pss_one (ps_ret (pe_mkS M_Stretches (rm hr) rfl T.g_Stretches (passes_call (takes_of rfl rfl rfl rfl) fun _ _ _ _ h => h) (pv 2)))), ?_⟩)
  · obtain ⟨a, dx, t, v, d, rfl, _⟩ := h
    rfl
  · obtain ⟨a, dx, t, v, d, rfl, hx, hp, er⟩ := h
    (purse 7012 => fail)
    refine g_kfld (K := K) hx T.cl T.nK rfl ?_
    (purse 7012 => fail)
    exact ⟨v, d, rfl, hp, er⟩
theorem ok_subE (F : FnP K "__sub__" "Stretches.__sub__" s_Stretches___sub__ f fd) (T : TQ K w mg) (D_kept_of : Dn P w K mg base 6 (ga K "kept_of") ["value"] (spKeptE (ga K "NoStretch"))) (D_gaps : Dn P w K mg base 6 (ga K "gaps") ["pairs"] spGaps) (D_common : Dn P w K mg base 6 (ga K "common") ["one", "other"] spCommon) (M_Stretches : Ms P w K mg base 8 (ga K "Stretches") (spMkR (ga K "Stretches"))) : FnOk P w K mg base (L2.CX P w) 12 f fd ["self", "other"] (spOpE (ga K "Stretches") (ga K "NoStretch")) := by
  refine F.ok c_Stretches___sub__ (fun vs H Q E h => ?_) (fun cdv A outer s H vs Q E hr h => ⟨_, pss_cons (ps_set (i := 2) c_Stretches___sub__.nd rfl (Or.inl rfl) (pe_dn D_common (rm hr) rfl T.g_common (passes_call (takes_of rfl rfl rfl rfl) fun _ _ _ _ h => h) (pa_cons (pe_fld (pv 0) rfl) (pa_cons (pe_dn D_gaps (rm hr) rfl T.g_gaps (passes_call (takes_of rfl rfl rfl rfl) fun _ _ _ _ h => h) (pa_cons (pe_dn D_kept_of (rm hr) rfl T.g_kept_of (passes_call (takes_of rfl rfl rfl rfl) fun _ _ _ _ h => h) (pa_cons (pv 1) (pa_nil))) (pa_nil))) (pa_nil)))))
      (pss_one (ps_ret (pe_mkS M_Stretches (rm hr) rfl T.g_Stretches (passes_call (takes_of rfl rfl rfl rfl) fun _ _ _ _ h => h) (pv 2)))), ?_⟩)
  · obtain ⟨a, dx, t, v, d, rfl, _⟩ := h
    rfl
  · obtain ⟨a, dx, t, v, d, rfl, hx, hp, er⟩ := h
    (purse 7012 => fail)
    refine g_kfld (K := K) hx T.cl T.nK rfl ?_
    (purse 7012 => fail)
    exact ⟨v, d, rfl, hp, er⟩
theorem ok_leE (F : FnP K "__le__" "Stretches.__le__" s_Stretches___le__ f fd) (T : TQ K w mg) (D_kept_of : Dn P w K mg base 6 (ga K "kept_of") ["value"] (spKeptE (ga K "NoStretch"))) (D_gaps : Dn P w K mg base 6 (ga K "gaps") ["pairs"] spGaps) (D_common : Dn P w K mg base 6 (ga K "common") ["one", "other"] spCommon) : FnOk P w K mg base (L2.CX P w) 12 f fd ["self", "other"] (spOpE (ga K "Stretches") (ga K "NoStretch")) := by
  refine F.ok c_Stretches___le__ (fun vs H Q E h => ?_) (fun cdv A outer s H vs Q E hr h => ⟨_, pss_one (ps_ret (pe_notT (pe_dn D_common (rm hr) rfl T.g_common (passes_call (takes_of rfl rfl rfl rfl) fun _ _ _ _ h => h) (pa_cons (pe_fld (pv 0) rfl) (pa_cons (pe_dn D_gaps (rm hr) rfl T.g_gaps (passes_call (takes_of rfl rfl rfl rfl) fun _ _ _ _ h => h) (pa_cons (pe_dn D_kept_of (rm hr) rfl T.g_kept_of (passes_call (takes_of rfl rfl rfl rfl) fun _ _ _ _ h => h) (pa_cons (pv 1) (pa_nil))) (pa_nil))) (pa_nil)))))), ?_⟩)
  · obtain ⟨a, dx, t, v, d, rfl, _⟩ := h
    rfl
  · obtain ⟨a, dx, t, v, d, rfl, hx, hp, er⟩ := h
    (purse 7012 => fail)
    refine g_kfld (K := K) hx T.cl T.nK rfl ?_
    (purse 7012 => fail)
    exact ⟨v, d, rfl, hp, er⟩
theorem ok_spreadE (F : FnP K "spread" "Stretches.spread" s_Stretches_spread f fd) (T : TQE K w mg) (X_NoStretch : Xn P w K mg base 3 (ga K "NoStretch") "index") (D_is_pair : Dn P w K mg base 6 (ga K "is_pair") ["value"] spPairD) (D_sum_of_ends : Dn P w K mg base 2 (ga K "sum_of_ends") ["one", "other"] spSumE) (M_Stretches : Ms P w K mg base 8 (ga K "Stretches") (spMkR (ga K "Stretches"))) :
    FnOk P w K mg base (L2.CX P w) 12 f fd ["self", "least", "most"] (spSpreadE (ga K "Stretches") (ga K "NoStretch")) := by
  refine F.ok c_Stretches_spread (fun vs H Q E h => ?_) (fun cdv A outer s H vs Q E hr h => ⟨_, pss_cons (ps_if (pt_not (pt_val (pe_dn D_is_pair (rm hr) rfl T.g_is_pair (passes_call (takes_of rfl rfl rfl rfl) fun _ _ _ _ h => h) (pa_cons (pe_tup (pa_cons (pv 1) (pa_cons (pv 2) (pa_nil)))) (pa_nil)))))
      (pss_one (ps_err X_NoStretch (rm hr) rfl (takes_of rfl rfl rfl rfl) rfl T.g_NoStretch (passes_call (takes_of rfl rfl rfl rfl) fun _ _ _ _ h => h.elim) ((pe_non))))
      (pss_nil))
      (pss_cons (ps_setLc (i := 3) (own := [("low", 4), ("high", 5)]) (g := gTup K 2 (gCons (gName 4) (gCons (gName 5) (gNil)))) (tt := tYes) rfl c_Stretches_spread.nd rfl rfl (sw_true rfl rfl rfl rfl) (pi_tup (pe_fld (pv 0) rfl)) (blkOk_by (own := [("low", 4), ("high", 5)]) (N := ["self", "least", "most", "found", "low", "high"]) (sc := defScope s_Stretches_spread) (by decide +kernel)) (fun _ _ _ _ _ => pg_tup (n := 2) rfl (pgs_cons (pg_name (i := 4) c_Stretches_spread.nd rfl (Or.inl rfl)) (pgs_cons (pg_name (i := 5) c_Stretches_spread.nd rfl (Or.inl rfl)) (pgs_nil)))) (fun _ _ _ _ _ => pts_nil) (fun _ _ _ _ _ => pe_tup (pa_cons (pe_op op_add (pv 4) (pv 1)) (pa_cons (pe_dn D_sum_of_ends (rm hr) rfl T.g_sum_of_ends passL (pa_cons (pv 5) (pa_cons (pv 2) (pa_nil)))) (pa_nil)))))
      (pss_one (ps_ret (pe_mkS M_Stretches (rm hr) rfl T.g_Stretches (passes_call (takes_of rfl rfl rfl rfl) fun _ _ _ _ h => h) (pv 3))))), ?_⟩)
  · obtain ⟨a, dx, t, v, u, d, e, rfl, _⟩ := h
    rfl
  · obtain ⟨a, dx, t, v, u, d, e, rfl, hx, hp, hq, hb, er⟩ := h
    have S : Sh H (fun _ => False) H [] := Sh.start
    (purse 7012 => fail)
    rename_i p H1 hp1 S1
    have c : Ch [] H H1 := by (purse 7006 => fail)
    refine ⟨_, .tuple [d, e], rfl, .tup (S1.has_ .here) (.cons (hp.ch c) (.cons (hq.ch c) .nil)), ?_⟩
    (purse 7012 => fail)
    rw [hb]
    (purse 7015 => fail)
    (purse 7012 => fail)
    refine g_err S1 fun d2 H2 S2 => ?_
    exact end_err S2 er
theorem ok_addE (F : FnP K "__add__" "Stretches.__add__" s_Stretches___add__ f fd) (T : TQ K w mg) (H_spread : Hn P w K mg base 12 (ga K "Stretches") "spread" (spSpreadE (ga K "Stretches") (ga K "NoStretch"))) : FnOk P w K mg base (L2.CX P w) 14 f fd ["self", "other"] (spAddE (ga K "Stretches") (ga K "NoStretch")) := by
  refine F.ok c_Stretches___add__ (fun vs H Q E h => ?_) (fun cdv A outer s H vs Q E hr h => ⟨_, pss_one (ps_ret (pe_dm H_spread (rm hr) (passes_call (takes_of rfl rfl rfl rfl) fun _ _ _ _ h => h) (pv 0) (pa_cons (pv 1) (pa_cons (pv 1) (pa_nil))))), ?_⟩)
  · obtain ⟨a, dx, t, v, d, rfl, _⟩ := h
    rfl
  · obtain ⟨a, dx, t, v, d, rfl, hx, hp, hb, er⟩ := h
    (purse 7012 => fail)
    refine g_kmeth hx rfl ?_
    (purse 7012 => fail)
    exact ⟨a, dx, t, v, v, d, d, rfl, hx, hp, hp, hb, er⟩
structure TRD (K : PySem.W.Frag) : Prop where
  ba : Bin K .Add (ga K "Stretches") (ma K (ga K "Stretches") "__add__")
  bes : ∀ t ∈ (["NoneType", "bool", "int", "str", "list", "tuple", "dict"] : List String), Beside K .Add (ga K "Stretches") (.type t)
theorem ok_raddE (F : FnP K "__radd__" "Stretches.__radd__" s_Stretches___radd__ f fd) (T : TRD K) (D_add : Dn P w K mg base 14 (ma K (ga K "Stretches") "__add__") ["self", "other"] (spAddE (ga K "Stretches") (ga K "NoStretch"))) : FnOk P w K mg base (L2.CX P w) 16 f fd ["self", "other"] (spAddE (ga K "Stretches") (ga K "NoStretch")) := by
  refine F.ok c_Stretches___radd__ (fun vs H Q E h => ?_) (fun cdv A outer s H vs Q E hr h => ⟨_, pss_one (ps_ret (pe_op (op_own D_add T.ba (rm hr) (passes_call (takes_of rfl rfl rfl rfl) fun _ _ _ _ h => h)) (pv 0) (pv 1))), ?_⟩)
  · obtain ⟨a, dx, t, v, d, rfl, _⟩ := h
    rfl
  · obtain ⟨a, dx, t, v, d, rfl, hx, hp, hb, er⟩ := h
    (purse 7012 => fail)
    refine g_own hx hp.kd (T.bes _ (tyN_mem d)) ?_
    exact ⟨a, dx, t, v, d, rfl, hx, hp, hb, er⟩
end

end K1
namespace K1
open PySem PySem.Spec PyProof.Rows L2 AF
open C8 (pe_gc)
open LamX
open ST (Pr Ok sem Canon com gp early plus spr saB en res sumc Ended)
local macro_rules | `(tactic| purse 7003 => fail) => `(tactic| k_dflt (refine Sh.has_ (by assumption) ?_; repeat (first | exact On.here | apply On.next)))
local macro_rules | `(tactic| purse 7004 => fail) => `(tactic| k_dflt (repeat (first | exact On.here | apply On.next)))
local macro_rules | `(tactic| purse 7005 => fail) => `(tactic| (repeat (first | exact Rep.here | apply Rep.next)))
local macro_rules | `(tactic| purse 7006 => fail) => `(tactic| (exact Sh.out (by assumption) (fun b h => by simp [h])))
local macro_rules | `(tactic| purse 7007 => fail) => `(tactic| k_dflt (first | ((with_reducible refine cdivw ?_ ?_) <;> omega) | ((with_reducible show CDiv _ _); constructor <;> omega) | ((with_reducible show CMul _ _); (first | (left; constructor <;> omega) | (right; constructor <;> omega))) | (show (0 : Int) < _; omega)))
local macro_rules | `(tactic| purse 7008 => fail) => `(tactic| first | exact Kd.int _ | exact Kd.bl _ | exact Kd.non | exact Kd.str _ | exact Kd.ins (by (purse 7003 => fail)) | exact Kd.lst (by (purse 7003 => fail)) | exact Kd.tup (by (purse 7003 => fail)))
local macro_rules | `(tactic| purse 7009 => fail) => `(tactic| first | exact DpAll.nil | (apply DpAll.cons; (purse 7010 => fail); (purse 7009 => fail)))
local macro_rules | `(tactic| purse 7010 => fail) => `(tactic| first | exact Dp.int _ | exact Dp.bl _ | exact Dp.non | exact Dp.str _ | (refine dp_int ?_; omega) | (refine dp_bl ?_; simp only [decide_eq_decide]; omega) | (apply dp_lst; (purse 7003 => fail); (purse 7009 => fail)) | (apply dp_tup; (purse 7003 => fail); (purse 7009 => fail)))
local macro_rules | `(tactic| purse 7011 => fail) => `(tactic| first | assumption | omega)
local macro_rules | `(tactic| purse 7001 => fail) => `(tactic| fail "no use")
local macro_rules | `(tactic| purse 7002 => fail) => `(tactic| first
  | (with_reducible refine set_go ?_)
  | (with_reducible refine Step.go ?_)
  | (with_reducible first | refine g_pow10_6 ?_ | refine g_pow10_7 ?_ | refine g_pow10_18 ?_ | refine g_pow10_29 ?_ | refine g_pow10_30 ?_)
  | ((with_reducible refine' g_I ?a0 ?_); (case a0 => (purse 7007 => fail)))
  | ((with_reducible refine' g_ixL ?a0 ?a1 ?_); (case a0 => (purse 7003 => fail)); (case a1 => k_dflt (exact rfl)))
  | ((with_reducible refine' g_kfld ?a0 ?a1 ?a2 ?a3 ?_); (case a0 => (purse 7003 => fail)); (case a1 => k_dflt (assumption)); (case a2 => k_dflt (assumption)); (case a3 => k_dflt (exact rfl)))
  | ((with_reducible refine' g_kprop ?a0 ?_); (case a0 => (purse 7003 => fail)))
  | ((with_reducible refine' g_kmeth ?a0 ?a1 ?_); (case a0 => (purse 7003 => fail)); (case a1 => k_dflt (exact rfl)))
  | ((with_reducible refine' g_own ?a0 ?a1 ?a2 ?_); (case a0 => (purse 7003 => fail)); (case a1 => (purse 7008 => fail)); (case a2 => k_dflt (assumption)))
  | ((with_reducible refine' g_cmp ?a0 ?a1 ?a2 ?_); (case a0 => (purse 7003 => fail)); (case a1 => (purse 7008 => fail)); (case a2 => k_dflt (assumption)))
  | ((with_reducible refine' g_neq ?a0 ?a1 ?a2 ?_); (case a0 => (purse 7003 => fail)); (case a1 => (purse 7008 => fail)); (case a2 => k_dflt (assumption)))
  | ((with_reducible refine' g_right ?a0 ?_); (case a0 => (purse 7003 => fail)))
  | ((with_reducible refine' use_draw ?a0 ?a1 ?a2 ?a3 ?a4 ?_); (case a0 => assumption); (case a1 => intro _ _; (purse 7005 => fail)); (case a2 => assumption); (case a3 => (purse 7011 => fail)); (case a4 => (purse 7011 => fail)); intro _ _ _ _ _ _ _ _)
  | ((with_reducible refine' use_giveI ?a0 ?a1 ?a2 ?_); (case a0 => assumption); (case a1 => intro _ _; (purse 7005 => fail)); (case a2 => assumption); intro _ _ _ _ _ _ _ _)
  | ((with_reducible refine' use_source ?a0 ?a1 ?_); (case a0 => assumption); (case a1 => k_dflt (assumption)); intro _ _ _ _ _ _)
  | (with_reducible refine g_absN ?_; intro _ _)
  | (with_reducible refine g_maxN ?_; intro _ _ _ _)
  | (with_reducible refine g_minN ?_; intro _ _ _ _)
  | ((with_reducible refine' g_kR1 ?a0 ?a1 ?_); (case a0 => omega); (case a1 => omega))
  | ((with_reducible refine' g_neD ?a0 ?a1 ?a2 ?_); (case a0 => (purse 7010 => fail)); (case a1 => (purse 7010 => fail)); (case a2 => k_dflt (rfl)))
  | ((with_reducible refine' g_eqD ?a0 ?a1 ?a2 ?_); (case a0 => (purse 7010 => fail)); (case a1 => (purse 7010 => fail)); (case a2 => k_dflt (rfl)))
  | ((with_reducible refine' g_klst ?a0 ?a1 ?_); (case a0 => assumption); (case a1 => k_dflt (exact rfl)); intro _ _ _ _)
  | ((with_reducible refine' g_ktup ?a0 ?a1 ?_); (case a0 => assumption); (case a1 => k_dflt (exact rfl)); intro _ _ _ _)
  | ((with_reducible refine' g_setL ?a0 ?a1 ?a2 ?_); (case a0 => assumption); (case a1 => (purse 7005 => fail)); (case a2 => k_dflt (exact rfl)); intro _ _)
  | ((with_reducible refine' g_unl3 ?a0 ?_); (case a0 => (purse 7003 => fail)))
  | (purse 7001 => fail))
local macro_rules | `(tactic| purse 7012 => fail) => `(tactic| ((try (with_reducible refine start_go ?_)); repeat (purse 7002 => fail)))
local macro_rules | `(tactic| purse 7013 => fail) => `(tactic| first | rfl | (refine decide_eq_true ?_; omega) | (simp only [Bool.not_eq_true', Bool.not_eq_false', decide_eq_false_iff_not, decide_eq_true_eq, Bool.not_not, decide_eq_decide]; done) | (simp only [Bool.not_eq_true', Bool.not_eq_false', decide_eq_false_iff_not, decide_eq_true_eq, Bool.not_not, decide_eq_decide]; omega))
local macro_rules | `(tactic| purse 7014 => fail) => `(tactic| first | rfl | (refine decide_eq_false ?_; omega) | (simp only [Bool.not_eq_true', Bool.not_eq_false', decide_eq_false_iff_not, decide_eq_true_eq, Bool.not_not, decide_eq_decide]; done) | (simp only [Bool.not_eq_true', Bool.not_eq_false', decide_eq_false_iff_not, decide_eq_true_eq, Bool.not_not, decide_eq_decide]; omega))
local macro_rules | `(tactic| purse 7015 => fail) => `(tactic| ((refine g_yes ?h ?_); (case h => (purse 7013 => fail))))
local macro_rules | `(tactic| purse 7016 => fail) => `(tactic| ((refine g_no ?h ?_); (case h => (purse 7014 => fail))))
local macro_rules | `(tactic| purse 7017 => fail) => `(tactic| first | (purse 7015 => fail) | (purse 7016 => fail))
local macro_rules | `(tactic| purse 7018 => fail) => `(tactic| repeat ((purse 7012 => fail); (purse 7017 => fail)))
local macro_rules | `(tactic| purse 7019 => fail) => `(tactic| repeat (first | exact intIn_nil | refine intIn_cons (by omega) (by omega) ?_))
local macro_rules | `(tactic| purse 7020 => fail) => `(tactic| (simp only [List.length_cons, List.length_nil]; omega))
local macro_rules | `(tactic| purse 7021 => fail) => `(tactic| (refine g_two (fun c => ?_) (fun c => ?_) <;> first | (have c := of_decide_eq_true c) | (have c := of_decide_eq_false c) | skip))
local macro_rules | `(tactic| purse 7022 => fail) => `(tactic| ((purse 7018 => fail); (purse 7012 => fail); try ((purse 7021 => fail) <;> (purse 7022 => fail))))

/-! the law's helpers -/
structure TL (K : PySem.W.Frag) (mg : Str → Option Value) : Prop where
  z_int : mg "int" = none
  z_abs : mg "abs" = none
  z_len : mg "len" = none
section
open He
variable {P : Program} {w : World} {K : PySem.W.Frag} {mg : Str → Option Value} {base : Heap} {f : Addr} {fd : FuncData}
theorem ok_draw (F : FunD K "_law_draw" "_law_draw" (defArgs s_law_draw) (defBody s_law_draw) (defScope s_law_draw) [] [] f fd) (T : TL K mg) : FnOk P w K mg base (L2.CX P w) 2 f fd ["source", "amount"] spDraw := by
  refine F.ok c_law_draw (fun vs H Q E h => ?_) (fun cdv A outer s H vs Q E hr h => ⟨_, pss_cons (ps_if (pt_cmpR op_gt (pe_ix ix_list (pv 0) (pe_int) (fun _ _ => rfl)) (pe_int) (nomark _))
      (pss_cons (ps_set (i := 2) c_law_draw.nd rfl (Or.inl rfl) (pe_op op_mod (pe_callTy cl_int (by rfl) T.z_int (by decide +kernel) (pa_cons (pe_ix ix_list (pv 0) (pe_int) (fun _ _ => rfl)) (pa_nil))) (pv 1)))
      (pss_cons (ps_asg (pe_op op_fdivW (pe_ix ix_list (pv 0) (pe_int) (fun _ _ => rfl)) (pv 1)) (pg_sub (pv 0) (pe_int) set_list))
      (pss_one (ps_ret (pv 2)))))
      (pss_nil))
      (pss_cons (ps_asg (pe_op op_mod (pe_callTy cl_int (by rfl) T.z_int (by decide +kernel) (pa_cons (pe_op op_add (pe_op op_mul (pe_ix ix_list (pv 0) (pe_int) (fun _ _ => rfl)) (pe_int)) (pe_int)) (pa_nil))) (pe_int)) (pg_sub (pv 0) (pe_int) set_list))
      (pss_cons (ps_set (i := 3) c_law_draw.nd rfl (Or.inl rfl) (pe_op op_fdiv (pe_op op_mod (pe_callTy cl_int (by rfl) T.z_int (by decide +kernel) (pa_cons (pe_op op_mul (pe_ix ix_list (pv 0) (pe_int) (fun _ _ => rfl)) (pe_ix ix_list (pv 0) (pe_int) (fun _ _ => rfl))) (pa_nil))) (pe_int)) (pe_int)))
      (pss_cons (ps_if (pt_cmpR op_gt (pv 1) (pe_op op_pow (pe_int) (pe_int)) (nomark _))
      (pss_cons (ps_asg (pe_op op_mod (pe_callTy cl_int (by rfl) T.z_int (by decide +kernel) (pa_cons (pe_op op_add (pe_op op_mul (pe_ix ix_list (pv 0) (pe_int) (fun _ _ => rfl)) (pe_int)) (pe_int)) (pa_nil))) (pe_int)) (pg_sub (pv 0) (pe_int) set_list))
      (pss_one (ps_set (i := 3) c_law_draw.nd rfl (Or.inl rfl) (pe_op op_add (pe_op op_mul (pv 3) (pe_int)) (pe_op op_fdiv (pe_op op_mod (pe_callTy cl_int (by rfl) T.z_int (by decide +kernel) (pa_cons (pe_op op_mul (pe_ix ix_list (pv 0) (pe_int) (fun _ _ => rfl)) (pe_ix ix_list (pv 0) (pe_int) (fun _ _ => rfl))) (pa_nil))) (pe_int)) (pe_int))))))
      (pss_nil))
      (pss_one (ps_ret (pe_op op_mod (pe_callTy cl_int (by rfl) T.z_int (by decide +kernel) (pa_cons (pv 3) (pa_nil))) (pv 1))))))), ?_⟩)
  · obtain ⟨a, n, s, m, rfl, _⟩ := h
    rfl
  · obtain ⟨a, n, s, m, rfl, ha, hs, h1, h2, k⟩ := h
    have S : Sh H (fun b => b = a) H [(a, .lst [.int n, .int s], true)] := Sh.start.take ha rfl (fun _ h => nomatch h)
    obtain ⟨s0, s1, s2⟩ := hs
    (purse 7012 => fail)
    refine g_two (fun c => ?_) (fun c => ?_)
    · have c := of_decide_eq_true c
      (purse 7012 => fail)
      refine k _ _ _ _ (by (purse 7006 => fail)) (by (purse 7003 => fail)) ?_ ?_ ?_
      · exact Int.emod_nonneg _ (by omega)
      · exact Int.emod_lt_of_pos _ (by omega)
      · exact ⟨Int.ediv_nonneg s0 (by omega), s1, s2⟩
    · (purse 7012 => fail)
      refine g_two (fun c2 => ?_) (fun c2 => ?_)
      · (purse 7012 => fail)
        refine k _ _ _ _ (by (purse 7006 => fail)) (by (purse 7003 => fail)) ?_ ?_ ?_
        · exact Int.emod_nonneg _ (by omega)
        · exact Int.emod_lt_of_pos _ (by omega)
        · exact ⟨s0, Int.emod_nonneg _ (by omega), Int.emod_lt_of_pos _ (by omega)⟩
      · (purse 7012 => fail)
        refine k _ _ _ _ (by (purse 7006 => fail)) (by (purse 7003 => fail)) ?_ ?_ ?_
        · exact Int.emod_nonneg _ (by omega)
        · exact Int.emod_lt_of_pos _ (by omega)
        · exact ⟨s0, Int.emod_nonneg _ (by omega), Int.emod_lt_of_pos _ (by omega)⟩
theorem ok_source (F : FunD K "_law_source" "_law_source" (defArgs s_law_source) (defBody s_law_source) (defScope s_law_source) [] [] f fd) (T : TL K mg) : FnOk P w K mg base (L2.CX P w) 2 f fd ["script", "turn"] (spSource K) := by
  refine F.ok c_law_source (fun vs H Q E h => ?_) (fun cdv A outer s H vs Q E hr h => ⟨_, pss_cons (ps_set (i := 2) c_law_source.nd rfl (Or.inl rfl) (pe_int))
      (pss_cons (ps_if (pt_cmpR op_lt (pv 1) (pe_callB cl_len (by rfl) T.z_len (by decide +kernel) (pa_cons (pv 0) (pa_nil))) (nomark _))
      (pss_one (ps_set (i := 2) c_law_source.nd rfl (Or.inl rfl) (pe_ix ix_list (pv 0) (pv 1) (fun _ _ => rfl))))
      (pss_nil))
      (pss_cons (ps_set (i := 3) c_law_source.nd rfl (Or.inl rfl) (pe_callB cl_abs (by rfl) T.z_abs (by decide +kernel) (pa_cons (pv 2) (pa_nil))))
      (pss_cons (ps_set (i := 4) c_law_source.nd rfl (Or.inl rfl) (pe_op op_mod (pe_callTy cl_int (by rfl) T.z_int (by decide +kernel) (pa_cons (pe_op op_add (pe_op op_add (pe_op op_mul (pe_op op_mod (pe_callTy cl_int (by rfl) T.z_int (by decide +kernel) (pa_cons (pv 3) (pa_nil))) (pe_int)) (pe_int)) (pe_op op_mul (pe_int) (pv 1))) (pe_int)) (pa_nil))) (pe_int)))
      (pss_cons (ps_if (pt_cmpR op_lt (pv 3) (pe_op op_pow (pe_int) (pe_int)) (nomark _))
      (pss_one (ps_set (i := 3) c_law_source.nd rfl (Or.inl rfl) (pe_int)))
      (pss_nil))
      (pss_one (ps_ret (pe_lst (pa_cons (pv 3) (pa_cons (pv 4) (pa_nil)))))))))), ?_⟩)
  · obtain ⟨a, ns, t, rfl, _⟩ := h
    rfl
  · obtain ⟨a, ns, t, rfl, hS, k⟩ := h
    have S : Sh H (fun _ => False) H [] := Sh.start
    have fin : ∀ {q : Addr} {n s : Int} {H' : Hp} {l : List Ent}, Sh H (fun _ => False) H' ((q, .lst [.int n, .int (s % 2147483647)], true) :: l) → 0 ≤ n → Q (.ref q) H' := fun {q n s H' l} S' h0 =>
      k q n _ H' ((S'.mu _ List.mem_cons_self rfl).elim False.elim id) (S'.out fun _ h => h.elim) (S'.has_ .here) ⟨h0, Int.emod_nonneg _ (by omega), Int.emod_lt_of_pos _ (by omega)⟩
    (purse 7012 => fail)
    refine g_lenL hS ?_
    (purse 7012 => fail)
    refine g_two (fun c => ?_) (fun c => ?_)
    · have c := of_decide_eq_true c
      (purse 7012 => fail)
      obtain ⟨v, hv, e⟩ := atI_some (xs := ns.map V.int) (i := (t : Int)) (by omega) c
      obtain ⟨z, _, rfl⟩ := List.mem_map.mp hv
      refine g_ixQ hS e ?_
      (purse 7012 => fail)
      refine g_two (fun c2 => ?_) (fun c2 => ?_)
      · (purse 7012 => fail)
        refine fin (by assumption) ?_; omega
      · (purse 7012 => fail)
        refine fin (by assumption) ?_; omega
    · (purse 7012 => fail)
      refine g_two (fun c2 => ?_) (fun c2 => ?_)
      · (purse 7012 => fail)
        refine fin (by assumption) ?_; omega
      · (purse 7012 => fail)
        refine fin (by assumption) ?_; omega
end

/-! the law's helper that picks -/
open He in
structure TPk (K : PySem.W.Frag) (mg : Str → Option Value) : Prop extends TL K mg where
  g_law_draw : mg "_law_draw" = some (.ref (ga K "_law_draw"))
  g_law_pick : mg "_law_pick" = some (.ref (ga K "_law_pick"))
  g_law_source : mg "_law_source" = some (.ref (ga K "_law_source"))
section
open He
variable {P : Program} {w : World} {K : PySem.W.Frag} {mg : Str → Option Value} {base : Heap} {f : Addr} {fd : FuncData}
theorem ok_pick (F : FnP K "_law_pick" "_law_pick" s_law_pick f fd) (T : TPk K mg) (D_law_draw : Dn P w K mg base 2 (ga K "_law_draw") ["source", "amount"] spDraw) : FnOk P w K mg base (L2.CX P w) 4 f fd ["source", "items"] spPick := by
  refine F.ok c_law_pick (fun vs H Q E h => ?_) (fun cdv A outer s H vs Q E hr h => ⟨_, pss_one (ps_ret (pe_ix ix_list (pv 1) (pe_dn D_law_draw (rm hr) rfl T.g_law_draw (passes_call (takes_of rfl rfl rfl rfl) fun _ _ _ _ h => h) (pa_cons (pv 0) (pa_cons (pe_callB cl_len (by rfl) T.z_len (by decide +kernel) (pa_cons (pv 1) (pa_nil))) (pa_nil)))) (fun _ _ => rfl))), ?_⟩)
  · obtain ⟨a, p, n, s, xs, rfl, _⟩ := h
    rfl
  · obtain ⟨a, p, n, s, xs, rfl, ha, hs, hp, h1, h2, hne, k⟩ := h
    have S0 : Sh H (fun b => b = a) H [(a, .lst [.int n, .int s], true)] := Sh.start.take ha rfl (fun _ h => nomatch h)
    have S : Sh H (fun b => b = a) H [(p, .lst xs, false), (a, .lst [.int n, .int s], true)] := S0.know hp (fun e he _ => by simp only [List.mem_cons, List.not_mem_nil, or_false] at he; subst he; exact hne)
    (purse 7012 => fail)
    refine g_lenl (by (purse 7003 => fail)) ?_
    (purse 7012 => fail)
    refine g_ixW (by (purse 7003 => fail)) (by assumption) (by assumption) ?_
    intro v hv
    exact k v _ _ _ (by (purse 7006 => fail)) (by (purse 7003 => fail)) hv (by assumption)
end

/-! a call that is refused: its error's index *-/
open He in
structure TRf (K : PySem.W.Frag) (mg : Str → Option Value) : Prop where
  g_NoStretch : mg "NoStretch" = some (.ref (ga K "NoStretch"))
  g_AgeError : mg "AgeError" = some (.ref (ga K "AgeError"))
  z_isinstance : mg "isinstance" = none
  z_ValueError : mg "ValueError" = none
  xc : ExcC K (ga K "NoStretch")
  nov : PySem.W.findIn K (.ref (ga K "NoStretch")) "index" = some none
  me : PySem.W.exmOne K (.ref (ga K "NoStretch")) (.ref (ga K "NoStretch")) = some true
  ka : PySem.W.kitOne K (.ref (ga K "NoStretch")) (.ref (ga K "AgeError")) = some true
  kv : PySem.W.kitOne K (.ref (ga K "NoStretch")) (.type "ValueError") = some true
section
open He
theorem act_refused {X : Cx} {k : Nat} (hr0 : Room (k + 4) X.A) (T : TRf X.K X.mg) {g : Addr} {cdg : Value} :
    ActOk X ["call", "found", "e"] "_law_refused" (defScope s_law_refused) g cdg (defBody s_law_refused) "call" (TTi (ga X.K "NoStretch") "index") := by
  intro f s H Q Pf tl hst hcall hp hT
  have hr := hr0.deeper (envOfC "_law_refused" (defScope s_law_refused) s.heap.objs.size g cdg)
  refine ⟨_, pss_cons (ps_set (i := 1) c_law_refused.nd rfl (Or.inl rfl) (pe_str))
      (pss_cons (ps_try_nam (i := 2) rfl rfl c_law_refused.nd rfl rfl LamX.takes0 (fun W0 pn0 xe0 tk0 po0 => pss_one (ps_expr (hcall W0 pn0 xe0 _ _ tk0)))
      (HdN.cons (c := .ref _) ⟨rfl, rfl, .inl T.g_NoStretch⟩ (fun ae oe cls de pn hz hf => pss_cons (ps_set (i := 1) c_law_refused.nd rfl (Or.inl rfl) (pe_xfD T.xc T.nov hz hf ((pv 2))))
      (pss_one (ps_if (PW.pt (pw_or (pt_not (pt_val (pe_callB (cl_isX T.xc hz hf) (by rfl) T.z_isinstance (by decide +kernel) (pa_cons (pv 2) (pa_cons (pe_glob (v := .ref _) rfl T.g_AgeError rfl) (pa_nil)))))) (pw_or1 (pt_not (pt_val (pe_callB (cl_isX T.xc hz hf) (by rfl) T.z_isinstance (by decide +kernel) (pa_cons (pv 2) (pa_cons (pe_bltn (v := .ty "ValueError") rfl T.z_ValueError (by decide +kernel) rfl) (pa_nil)))))))))
      (pss_one (ps_set (i := 1) c_law_refused.nd rfl (Or.inl rfl) (pe_str)))
      (pss_nil))))
      (HdN.nil)))
      (pss_one (ps_ret (pv 1)))), ?_⟩
  (purse 7012 => fail)
  refine ⟨rfl, hp, hT _ _ fun cls d H2 w => ?_⟩
  obtain ⟨dd, v, rfl, rfl, hx, k⟩ := w
  have S2 : Sh H2 (fun _ => False) H2 [(dd, .xd [("index", v)], false)] := Sh.start.know hx (fun _ h => nomatch h)
  refine g_wyes T.me fun b hb => ?_
  refine g_off ?_
  (purse 7012 => fail)
  refine g_xf (by (purse 7003 => fail)) rfl ?_
  (purse 7012 => fail)
  refine g_isX (by (purse 7003 => fail)) (.own _) T.ka ?_
  (purse 7012 => fail)
  (purse 7016 => fail)
  (purse 7012 => fail)
  refine g_isX (by (purse 7003 => fail)) (.ty _) T.kv ?_
  (purse 7012 => fail)
  (purse 7016 => fail)
  (purse 7012 => fail)
  refine clr_goE ?_
  (purse 7012 => fail)
  exact k _ (by (purse 7006 => fail))
end
/-! sets of listed pairs *-/
def spOf (C : Addr) : Sp := fun vs H Q _ => ∃ (p : Addr) (ws : List V) (l : List Pr), vs = [.ref p] ∧ H p = some (.lst ws) ∧ PrL H ws l ∧ (∀ q, q ∈ l → Ok q) ∧ 1 ≤ ws.length ∧ ws.length ≤ 3 ∧ NewS C (fun y => sem l y) l.length H Q
def spOfE (C C2 : Addr) : Sp := fun vs H _ E => ∃ (p : Addr) (ws : List V) (ds : List PyData) (i : Nat), vs = [.ref p] ∧ H p = some (.lst ws) ∧ PvAll H ws ds ∧ Bad ds i ∧ 1 ≤ ws.length ∧ ws.length ≤ 3 ∧ Err C2 "index" (.int (i : Nat)) H E
def spOneE (C C2 : Addr) : Sp := fun vs H _ E => ∃ n : Int, vs = [.int n] ∧ n < 0 ∧ Err C2 "index" (.int 0) H E
theorem Pva_up {H H' : Hp} (u : Up H H') {ws : List V} {ds : List PyData} (h : PvAll H ws ds) : PvAll H' ws ds := PvAll.ch (fun b o e _ => u b o e) ds ws h
theorem g_mkE {C C2 : Addr} {H : Hp} {ws : List V} {ds : List PyData} {i : Nat} {Q : VK} {E : XK} (hp : PvAll H ws ds) (hb : Bad ds i) (hn : ws.length ≤ 900) (k : Err C2 "index" (.int (i : Nat)) H E) : kMake C (spMkRE C C2) E Q ws H := by
  intro x dx hx hdx hne
  have u1 : Up H (upd H dx (.own x)) := Up.new hdx
  have h1 : upd H dx (.own x) x = none := by rw [upd_ne (fun z => hne z.symm)]; exact hx
  have u2 : Up H (upd (upd H dx (.own x)) x (.ins C dx [])) := u1.trans (Up.new h1)
  have hx2 : upd (upd H dx (.own x)) x (.ins C dx []) x = some (.ins C dx []) := upd_same
  generalize upd (upd H dx (.own x)) x (.ins C dx []) = H2 at u2 hx2 ⊢
  refine ⟨[.ref x], ws, rfl, rfl, Nat.le_of_lt (line1000 (by omega)), fun p hpn => ?_⟩
  have u3 : Up H2 (upd H2 p (.tup ws)) := Up.new hpn
  exact ⟨x, dx, p, ws, ds, i, rfl, u3 _ _ hx2, upd_same, Pva_up (u2.trans u3) hp, hb, AF.Err.up k (u2.trans u3)⟩
section
open He
variable {P : Program} {w : World} {K : PySem.W.Frag} {mg : Str → Option Value} {base : Heap} {f : Addr} {fd : FuncData}
theorem ok_of (F : FnP K "_law_of" "_law_of" s_law_of f fd) (T : TQ K w mg) (M_Stretches : Ms P w K mg base 8 (ga K "Stretches") (spMkR (ga K "Stretches"))) : FnOk P w K mg base (L2.CX P w) 12 f fd ["pairs"] (spOf (ga K "Stretches")) := by
  refine F.ok c_law_of (fun vs H Q E h => ?_) (fun cdv A outer s H vs Q E hr h => ⟨_, pss_cons (ps_if (pt_cmpR op_eq (pe_callB cl_len (by rfl) T.z_len (by decide +kernel) (pa_cons (pv 0) (pa_nil))) (pe_int) (nomark _))
      (pss_one (ps_ret (pe_mkR M_Stretches (rm hr) rfl T.g_Stretches (passes_call (takes_of rfl rfl rfl rfl) fun _ _ _ _ h => h) (pa_cons (pe_ix ix_list (pv 0) (pe_int) (fun _ _ => rfl)) (pa_nil)))))
      (pss_nil))
      (pss_cons (ps_if (pt_cmpR op_eq (pe_callB cl_len (by rfl) T.z_len (by decide +kernel) (pa_cons (pv 0) (pa_nil))) (pe_int) (nomark _))
      (pss_one (ps_ret (pe_mkR M_Stretches (rm hr) rfl T.g_Stretches (passes_call (takes_of rfl rfl rfl rfl) fun _ _ _ _ h => h) (pa_cons (pe_ix ix_list (pv 0) (pe_int) (fun _ _ => rfl)) (pa_cons (pe_ix ix_list (pv 0) (pe_int) (fun _ _ => rfl)) (pa_nil))))))
      (pss_nil))
      (pss_one (ps_ret (pe_mkR M_Stretches (rm hr) rfl T.g_Stretches (passes_call (takes_of rfl rfl rfl rfl) fun _ _ _ _ h => h) (pa_cons (pe_ix ix_list (pv 0) (pe_int) (fun _ _ => rfl)) (pa_cons (pe_ix ix_list (pv 0) (pe_int) (fun _ _ => rfl)) (pa_cons (pe_ix ix_list (pv 0) (pe_int) (fun _ _ => rfl)) (pa_nil)))))))), ?_⟩)
  · obtain ⟨p, ws, l, rfl, _⟩ := h
    rfl
  · obtain ⟨p, ws, l, rfl, hp, hpr, hok, h1, h3, k⟩ := h
    have S : Sh H (fun _ => False) H [(p, .lst ws, false)] := Sh.start.know hp (fun _ h => nomatch h)
    (purse 7012 => fail)
    match ws, h1, h3, hpr, S with
    | [v1], _, _, hpr, S =>
      refine g_lenl (by (purse 7003 => fail)) ?_
      (purse 7012 => fail)
      (purse 7015 => fail)
      (purse 7012 => fail)
      exact g_mk hpr hok (by rw [← hpr.len]; exact Nat.le_of_ble_eq_true rfl) k
    | [v1, v2], _, _, hpr, S =>
      refine g_lenl (by (purse 7003 => fail)) ?_
      (purse 7012 => fail)
      (purse 7016 => fail)
      (purse 7012 => fail)
      refine g_lenl (by (purse 7003 => fail)) ?_
      (purse 7012 => fail)
      (purse 7015 => fail)
      (purse 7012 => fail)
      exact g_mk hpr hok (by rw [← hpr.len]; exact Nat.le_of_ble_eq_true rfl) k
    | [v1, v2, v3], _, _, hpr, S =>
      refine g_lenl (by (purse 7003 => fail)) ?_
      (purse 7012 => fail)
      (purse 7016 => fail)
      (purse 7012 => fail)
      refine g_lenl (by (purse 7003 => fail)) ?_
      (purse 7012 => fail)
      (purse 7016 => fail)
      (purse 7012 => fail)
      exact g_mk hpr hok (by rw [← hpr.len]; exact Nat.le_of_ble_eq_true rfl) k
theorem ok_ofE (F : FnP K "_law_of" "_law_of" s_law_of f fd) (T : TQ K w mg) (M_Stretches : Ms P w K mg base 8 (ga K "Stretches") (spMkRE (ga K "Stretches") (ga K "NoStretch"))) : FnOk P w K mg base (L2.CX P w) 12 f fd ["pairs"] (spOfE (ga K "Stretches") (ga K "NoStretch")) := by
  refine F.ok c_law_of (fun vs H Q E h => ?_) (fun cdv A outer s H vs Q E hr h => ⟨_, pss_cons (ps_if (pt_cmpR op_eq (pe_callB cl_len (by rfl) T.z_len (by decide +kernel) (pa_cons (pv 0) (pa_nil))) (pe_int) (nomark _))
      (pss_one (ps_ret (pe_mkR M_Stretches (rm hr) rfl T.g_Stretches (passes_call (takes_of rfl rfl rfl rfl) fun _ _ _ _ h => h) (pa_cons (pe_ix ix_list (pv 0) (pe_int) (fun _ _ => rfl)) (pa_nil)))))
      (pss_nil))
      (pss_cons (ps_if (pt_cmpR op_eq (pe_callB cl_len (by rfl) T.z_len (by decide +kernel) (pa_cons (pv 0) (pa_nil))) (pe_int) (nomark _))
      (pss_one (ps_ret (pe_mkR M_Stretches (rm hr) rfl T.g_Stretches (passes_call (takes_of rfl rfl rfl rfl) fun _ _ _ _ h => h) (pa_cons (pe_ix ix_list (pv 0) (pe_int) (fun _ _ => rfl)) (pa_cons (pe_ix ix_list (pv 0) (pe_int) (fun _ _ => rfl)) (pa_nil))))))
      (pss_nil))
      (pss_one (ps_ret (pe_mkR M_Stretches (rm hr) rfl T.g_Stretches (passes_call (takes_of rfl rfl rfl rfl) fun _ _ _ _ h => h) (pa_cons (pe_ix ix_list (pv 0) (pe_int) (fun _ _ => rfl)) (pa_cons (pe_ix ix_list (pv 0) (pe_int) (fun _ _ => rfl)) (pa_cons (pe_ix ix_list (pv 0) (pe_int) (fun _ _ => rfl)) (pa_nil)))))))), ?_⟩)
  · obtain ⟨p, ws, ds, i, rfl, _⟩ := h
    rfl
  · obtain ⟨p, ws, ds, i, rfl, hp, hpr, hb, h1, h3, k⟩ := h
    have S : Sh H (fun _ => False) H [(p, .lst ws, false)] := Sh.start.know hp (fun _ h => nomatch h)
    (purse 7012 => fail)
    match ws, h1, h3, hpr, S with
    | [v1], _, _, hpr, S =>
      refine g_lenl (by (purse 7003 => fail)) ?_
      (purse 7012 => fail)
      (purse 7015 => fail)
      (purse 7012 => fail)
      exact g_mkE hpr hb (by exact Nat.le_of_ble_eq_true rfl) k
    | [v1, v2], _, _, hpr, S =>
      refine g_lenl (by (purse 7003 => fail)) ?_
      (purse 7012 => fail)
      (purse 7016 => fail)
      (purse 7012 => fail)
      refine g_lenl (by (purse 7003 => fail)) ?_
      (purse 7012 => fail)
      (purse 7015 => fail)
      (purse 7012 => fail)
      exact g_mkE hpr hb (by exact Nat.le_of_ble_eq_true rfl) k
    | [v1, v2, v3], _, _, hpr, S =>
      refine g_lenl (by (purse 7003 => fail)) ?_
      (purse 7012 => fail)
      (purse 7016 => fail)
      (purse 7012 => fail)
      refine g_lenl (by (purse 7003 => fail)) ?_
      (purse 7012 => fail)
      (purse 7016 => fail)
      (purse 7012 => fail)
      exact g_mkE hpr hb (by exact Nat.le_of_ble_eq_true rfl) k
theorem ok_oneE (F : FnP K "one" "Stretches.one" s_Stretches_one f fd) (T : TQ K w mg) (M_Stretches : Ms P w K mg base 8 (ga K "Stretches") (spMkRE (ga K "Stretches") (ga K "NoStretch"))) : FnOk P w K mg base (L2.CX P w) 12 f fd ["n"] (spOneE (ga K "Stretches") (ga K "NoStretch")) := by
  refine F.ok c_Stretches_one (fun vs H Q E h => ?_) (fun cdv A outer s H vs Q E hr h => ⟨_, pss_one (ps_ret (pe_mkR M_Stretches (rm hr) rfl T.g_Stretches (passes_call (takes_of rfl rfl rfl rfl) fun _ _ _ _ h => h) (pa_cons (pe_tup (pa_cons (pv 0) (pa_cons (pv 0) (pa_nil)))) (pa_nil)))), ?_⟩)
  · obtain ⟨n, rfl, _⟩ := h
    rfl
  · obtain ⟨n, rfl, hn, k⟩ := h
    have S : Sh H (fun _ => False) H [] := Sh.start
    (purse 7012 => fail)
    rename_i p H1 hp1 S1
    have hq : pairB (.tuple [.int n, .int n]) = false := by
      show (decide (0 ≤ n) && _) = false
      rw [decide_eq_false (by omega), Bool.false_and]
    refine g_mkE (ds := [.tuple [.int n, .int n]]) (i := 0) (.cons (.tup (S1.has_ .here) (.cons (.int n) (.cons (.int n) .nil))) .nil) ⟨fun j d z => absurd z (Nat.not_lt_zero j), _, rfl, hq⟩ (by exact Nat.le_of_ble_eq_true rfl) (AF.Err.up k fun b o e => S1.fr _ _ e (fun z => z))
end

end K1
namespace K1
open PySem PySem.Spec PyProof.Rows L2 AF
open C8 (pe_gc)
open LamX
open ST (Pr Ok sem Canon com gp early plus spr saB en res sumc Ended)
local macro_rules | `(tactic| purse 7003 => fail) => `(tactic| k_dflt (refine Sh.has_ (by assumption) ?_; repeat (first | exact On.here | apply On.next)))
local macro_rules | `(tactic| purse 7004 => fail) => `(tactic| k_dflt (repeat (first | exact On.here | apply On.next)))
local macro_rules | `(tactic| purse 7005 => fail) => `(tactic| (repeat (first | exact Rep.here | apply Rep.next)))
local macro_rules | `(tactic| purse 7006 => fail) => `(tactic| (exact Sh.out (by assumption) (fun b h => by simp [h])))
local macro_rules | `(tactic| purse 7007 => fail) => `(tactic| k_dflt (first | ((with_reducible refine cdivw ?_ ?_) <;> omega) | ((with_reducible show CDiv _ _); constructor <;> omega) | ((with_reducible show CMul _ _); (first | (left; constructor <;> omega) | (right; constructor <;> omega))) | (show (0 : Int) < _; omega)))
local macro_rules | `(tactic| purse 7008 => fail) => `(tactic| first | exact Kd.int _ | exact Kd.bl _ | exact Kd.non | exact Kd.str _ | exact Kd.ins (by (purse 7003 => fail)) | exact Kd.lst (by (purse 7003 => fail)) | exact Kd.tup (by (purse 7003 => fail)))
local macro_rules | `(tactic| purse 7009 => fail) => `(tactic| first | exact DpAll.nil | (apply DpAll.cons; (purse 7010 => fail); (purse 7009 => fail)))
local macro_rules | `(tactic| purse 7010 => fail) => `(tactic| first | exact Dp.int _ | exact Dp.bl _ | exact Dp.non | exact Dp.str _ | (refine dp_int ?_; omega) | (refine dp_bl ?_; simp only [decide_eq_decide]; omega) | (apply dp_lst; (purse 7003 => fail); (purse 7009 => fail)) | (apply dp_tup; (purse 7003 => fail); (purse 7009 => fail)))
local macro_rules | `(tactic| purse 7011 => fail) => `(tactic| first | assumption | omega)
local macro_rules | `(tactic| purse 7001 => fail) => `(tactic| fail "no use")
local macro_rules | `(tactic| purse 7002 => fail) => `(tactic| first
  | (with_reducible refine set_go ?_)
  | (with_reducible refine Step.go ?_)
  | (with_reducible first | refine g_pow10_6 ?_ | refine g_pow10_7 ?_ | refine g_pow10_18 ?_ | refine g_pow10_29 ?_ | refine g_pow10_30 ?_)
  | ((with_reducible refine' g_I ?a0 ?_); (case a0 => (purse 7007 => fail)))
  | ((with_reducible refine' g_ixL ?a0 ?a1 ?_); (case a0 => (purse 7003 => fail)); (case a1 => k_dflt (exact rfl)))
  | ((with_reducible refine' g_kfld ?a0 ?a1 ?a2 ?a3 ?_); (case a0 => (purse 7003 => fail)); (case a1 => k_dflt (assumption)); (case a2 => k_dflt (assumption)); (case a3 => k_dflt (exact rfl)))
  | ((with_reducible refine' g_kprop ?a0 ?_); (case a0 => (purse 7003 => fail)))
  | ((with_reducible refine' g_kmeth ?a0 ?a1 ?_); (case a0 => (purse 7003 => fail)); (case a1 => k_dflt (exact rfl)))
  | ((with_reducible refine' g_own ?a0 ?a1 ?a2 ?_); (case a0 => (purse 7003 => fail)); (case a1 => (purse 7008 => fail)); (case a2 => k_dflt (assumption)))
  | ((with_reducible refine' g_cmp ?a0 ?a1 ?a2 ?_); (case a0 => (purse 7003 => fail)); (case a1 => (purse 7008 => fail)); (case a2 => k_dflt (assumption)))
  | ((with_reducible refine' g_neq ?a0 ?a1 ?a2 ?_); (case a0 => (purse 7003 => fail)); (case a1 => (purse 7008 => fail)); (case a2 => k_dflt (assumption)))
  | ((with_reducible refine' g_right ?a0 ?_); (case a0 => (purse 7003 => fail)))
  | ((with_reducible refine' use_draw ?a0 ?a1 ?a2 ?a3 ?a4 ?_); (case a0 => assumption); (case a1 => intro _ _; (purse 7005 => fail)); (case a2 => assumption); (case a3 => (purse 7011 => fail)); (case a4 => (purse 7011 => fail)); intro _ _ _ _ _ _ _ _)
  | ((with_reducible refine' use_giveI ?a0 ?a1 ?a2 ?_); (case a0 => assumption); (case a1 => intro _ _; (purse 7005 => fail)); (case a2 => assumption); intro _ _ _ _ _ _ _ _)
  | ((with_reducible refine' use_source ?a0 ?a1 ?_); (case a0 => assumption); (case a1 => k_dflt (assumption)); intro _ _ _ _ _ _)
  | (with_reducible refine g_absN ?_; intro _ _)
  | (with_reducible refine g_maxN ?_; intro _ _ _ _)
  | (with_reducible refine g_minN ?_; intro _ _ _ _)
  | ((with_reducible refine' g_kR1 ?a0 ?a1 ?_); (case a0 => omega); (case a1 => omega))
  | ((with_reducible refine' g_neD ?a0 ?a1 ?a2 ?_); (case a0 => (purse 7010 => fail)); (case a1 => (purse 7010 => fail)); (case a2 => k_dflt (rfl)))
  | ((with_reducible refine' g_eqD ?a0 ?a1 ?a2 ?_); (case a0 => (purse 7010 => fail)); (case a1 => (purse 7010 => fail)); (case a2 => k_dflt (rfl)))
  | ((with_reducible refine' g_klst ?a0 ?a1 ?_); (case a0 => assumption); (case a1 => k_dflt (exact rfl)); intro _ _ _ _)
  | ((with_reducible refine' g_ktup ?a0 ?a1 ?_); (case a0 => assumption); (case a1 => k_dflt (exact rfl)); intro _ _ _ _)
  | ((with_reducible refine' g_setL ?a0 ?a1 ?a2 ?_); (case a0 => assumption); (case a1 => (purse 7005 => fail)); (case a2 => k_dflt (exact rfl)); intro _ _)
  | ((with_reducible refine' g_unl3 ?a0 ?_); (case a0 => (purse 7003 => fail)))
  | (purse 7001 => fail))
local macro_rules | `(tactic| purse 7012 => fail) => `(tactic| ((try (with_reducible refine start_go ?_)); repeat (purse 7002 => fail)))
local macro_rules | `(tactic| purse 7013 => fail) => `(tactic| first | rfl | (refine decide_eq_true ?_; omega) | (simp only [Bool.not_eq_true', Bool.not_eq_false', decide_eq_false_iff_not, decide_eq_true_eq, Bool.not_not, decide_eq_decide]; done) | (simp only [Bool.not_eq_true', Bool.not_eq_false', decide_eq_false_iff_not, decide_eq_true_eq, Bool.not_not, decide_eq_decide]; omega))
local macro_rules | `(tactic| purse 7014 => fail) => `(tactic| first | rfl | (refine decide_eq_false ?_; omega) | (simp only [Bool.not_eq_true', Bool.not_eq_false', decide_eq_false_iff_not, decide_eq_true_eq, Bool.not_not, decide_eq_decide]; done) | (simp only [Bool.not_eq_true', Bool.not_eq_false', decide_eq_false_iff_not, decide_eq_true_eq, Bool.not_not, decide_eq_decide]; omega))
local macro_rules | `(tactic| purse 7015 => fail) => `(tactic| ((refine g_yes ?h ?_); (case h => (purse 7013 => fail))))
local macro_rules | `(tactic| purse 7016 => fail) => `(tactic| ((refine g_no ?h ?_); (case h => (purse 7014 => fail))))
local macro_rules | `(tactic| purse 7017 => fail) => `(tactic| first | (purse 7015 => fail) | (purse 7016 => fail))
local macro_rules | `(tactic| purse 7018 => fail) => `(tactic| repeat ((purse 7012 => fail); (purse 7017 => fail)))
local macro_rules | `(tactic| purse 7019 => fail) => `(tactic| repeat (first | exact intIn_nil | refine intIn_cons (by omega) (by omega) ?_))
local macro_rules | `(tactic| purse 7020 => fail) => `(tactic| (simp only [List.length_cons, List.length_nil]; omega))
local macro_rules | `(tactic| purse 7021 => fail) => `(tactic| (refine g_two (fun c => ?_) (fun c => ?_) <;> first | (have c := of_decide_eq_true c) | (have c := of_decide_eq_false c) | skip))
local macro_rules | `(tactic| purse 7022 => fail) => `(tactic| ((purse 7018 => fail); (purse 7012 => fail); try ((purse 7021 => fail) <;> (purse 7022 => fail))))

/-! the law -/
open He in
structure TW (K : PySem.W.Frag) (w : World) (mg : Str → Option Value) : Prop extends TQE K w mg, TPk K mg, TRf K mg where
  g_law_of : mg "_law_of" = some (.ref (ga K "_law_of"))
  g_law_refused : mg "_law_refused" = some (.ref (ga K "_law_refused"))
  sm_one : SMet K (ga K "Stretches") "one" (ma K (ga K "Stretches") "one") (He5.wf K (ga K "Stretches") "staticmethod" "one")
  ban : Bin K .BitAnd (ga K "Stretches") (ma K (ga K "Stretches") "__and__")
  bor : Bin K .BitOr (ga K "Stretches") (ma K (ga K "Stretches") "__or__")
  bsub : Bin K .Sub (ga K "Stretches") (ma K (ga K "Stretches") "__sub__")
  ba : Bin K .Add (ga K "Stretches") (ma K (ga K "Stretches") "__add__")
  cle : Cmp K .LtE (ga K "Stretches") (ma K (ga K "Stretches") "__le__")
  br : BinR K .Add (ga K "Stretches") (ma K (ga K "Stretches") "__radd__")
  hbb : PySem.W.subIn K (.ref (ga K "Stretches")) (.type "bool") = some false
  ne : NeC K (ga K "Stretches") (ma K (ga K "Stretches") "__eq__")
  nfC : PySem.W.notFirst K (ga K "Stretches") (.ref (ga K "Stretches")) = true
  nfT : ∀ t ∈ (["NoneType", "bool", "int", "str", "list", "tuple", "dict"] : List String), PySem.W.notFirst K (ga K "Stretches") (.type t) = true
  beT : ∀ op ∈ ([.BitAnd, .BitOr, .Sub, .Add] : List Operator), ∀ t ∈ (["NoneType", "bool", "int", "str", "list", "tuple", "dict"] : List String), Beside K op (ga K "Stretches") (.type t)
open He in
def spLaw (K : PySem.W.Frag) (xs : List Str) : Sp := fun vs H Q _ => ∃ (a : Addr) (ns : List Int), vs = [.ref a] ∧ SqF K H a (ns.map V.int) ∧ ns.length ≤ 63 ∧ Tabs (lamT K xs) H ∧ ∀ H', Q (.bl true) H'
local macro_rules | `(tactic| purse 7023 => fail) => `(tactic| (repeat (first | exact List.Sublist.refl _ | exact List.nil_sublist _ | apply List.Sublist.cons_cons | apply List.Sublist.cons)))
local macro_rules | `(tactic| purse 7024 => fail) => `(tactic| first | exact PvAll.nil | (refine PvAll.cons ?_ ?_; (focus (purse 7025 => fail)); (purse 7024 => fail)))
local macro_rules | `(tactic| purse 7025 => fail) => `(tactic| first | exact Pv.non | exact Pv.bl _ | exact Pv.int _ | exact Pv.str _ | (apply Pv.d0; (purse 7003 => fail); done) | (apply Pv.lst; (purse 7003 => fail); (purse 7024 => fail); done) | (apply Pv.tup; (purse 7003 => fail); (purse 7024 => fail); done))
local macro_rules | `(tactic| purse 7026 => fail) => `(tactic| (repeat ((fail_if_success (with_reducible refine g_mark ?_)); (purse 7002 => fail))))
theorem ne_obj {H : Hp} {p q : Addr} {o o' : HO} (h : H p = some o) (h' : H q = some o') (ne : o ≠ o') : p ≠ q := fun z => ne (by rw [z, h'] at h; exact (Option.some.inj h).symm)
theorem odd_key {H0 H : Hp} {M : Addr → Prop} {l : List Ent} {p1 p2 p3 p4 p5 p6 p7 p8 p9 p10 p11 p12 p13 p14 p15 p16 : Addr} {v : V} (S : Sh H0 M H ((p16, HO.lst [.ref p1, .ref p2, .ref p3, .ref p4, .ref p5, .ref p6, .ref p7, .ref p8, .ref p9, .str "12", .non, .int 7, .ref p10, .ref p11, .ref p12, .ref p13, .ref p14, .ref p15], true) :: (p15, HO.tup [.int 0, .bl false], true) :: (p14, HO.tup [.non, .non], true) :: (p13, HO.dK [], true) :: (p12, HO.tup [], true) :: (p11, HO.tup [.int 1, .str "2"], true) :: (p10, HO.tup [.str "1", .int 2], true) :: (p9, HO.lst [.int 1, .int 2], true) :: (p8, HO.tup [.int 1, .int 2, .int 3], true) :: (p7, HO.tup [.int 1], true) :: (p6, HO.tup [.int 1, .bl true], true) :: (p5, HO.tup [.bl true, .int 2], true) :: (p4, HO.tup [.non, .int 2], true) :: (p3, HO.tup [.int 1, .int (-1)], true) :: (p2, HO.tup [.int (-1), .int 2], true) :: (p1, HO.tup [.int 3, .int 2], true) :: l)) (hv : v ∈ ([.ref p1, .ref p2, .ref p3, .ref p4, .ref p5, .ref p6, .ref p7, .ref p8, .ref p9, .str "12", .non, .int 7, .ref p10, .ref p11, .ref p12, .ref p13, .ref p14, .ref p15] : List V)) : ∃ d E, pairB d = false ∧ PvE E v d ∧ softL E = true ∧ Sh H0 M H (l ++ E) := by
  simp only [List.mem_cons, List.not_mem_nil, or_false] at hv
  rcases hv with rfl | rfl | rfl | rfl | rfl | rfl | rfl | rfl | rfl | rfl | rfl | rfl | rfl | rfl | rfl | rfl | rfl | rfl
  · exact ⟨.tuple [.int 3, .int 2], [(p1, HO.tup [.int 3, .int 2], true)], by decide +kernel, fun H2 h => .tup (h _ (.head _)) (.cons (.int _) (.cons (.int _) .nil)), by rfl, Sh.tail (l1 := [(p16, HO.lst [.ref p1, .ref p2, .ref p3, .ref p4, .ref p5, .ref p6, .ref p7, .ref p8, .ref p9, .str "12", .non, .int 7, .ref p10, .ref p11, .ref p12, .ref p13, .ref p14, .ref p15], true), (p15, HO.tup [.int 0, .bl false], true), (p14, HO.tup [.non, .non], true), (p13, HO.dK [], true), (p12, HO.tup [], true), (p11, HO.tup [.int 1, .str "2"], true), (p10, HO.tup [.str "1", .int 2], true), (p9, HO.lst [.int 1, .int 2], true), (p8, HO.tup [.int 1, .int 2, .int 3], true), (p7, HO.tup [.int 1], true), (p6, HO.tup [.int 1, .bl true], true), (p5, HO.tup [.bl true, .int 2], true), (p4, HO.tup [.non, .int 2], true), (p3, HO.tup [.int 1, .int (-1)], true), (p2, HO.tup [.int (-1), .int 2], true), (p1, HO.tup [.int 3, .int 2], true)]) S (by (purse 7023 => fail))⟩
  · exact ⟨.tuple [.int (-1), .int 2], [(p2, HO.tup [.int (-1), .int 2], true)], by decide +kernel, fun H2 h => .tup (h _ (.head _)) (.cons (.int _) (.cons (.int _) .nil)), by rfl, Sh.tail (l1 := [(p16, HO.lst [.ref p1, .ref p2, .ref p3, .ref p4, .ref p5, .ref p6, .ref p7, .ref p8, .ref p9, .str "12", .non, .int 7, .ref p10, .ref p11, .ref p12, .ref p13, .ref p14, .ref p15], true), (p15, HO.tup [.int 0, .bl false], true), (p14, HO.tup [.non, .non], true), (p13, HO.dK [], true), (p12, HO.tup [], true), (p11, HO.tup [.int 1, .str "2"], true), (p10, HO.tup [.str "1", .int 2], true), (p9, HO.lst [.int 1, .int 2], true), (p8, HO.tup [.int 1, .int 2, .int 3], true), (p7, HO.tup [.int 1], true), (p6, HO.tup [.int 1, .bl true], true), (p5, HO.tup [.bl true, .int 2], true), (p4, HO.tup [.non, .int 2], true), (p3, HO.tup [.int 1, .int (-1)], true), (p2, HO.tup [.int (-1), .int 2], true), (p1, HO.tup [.int 3, .int 2], true)]) S (by (purse 7023 => fail))⟩
  · exact ⟨.tuple [.int 1, .int (-1)], [(p3, HO.tup [.int 1, .int (-1)], true)], by decide +kernel, fun H2 h => .tup (h _ (.head _)) (.cons (.int _) (.cons (.int _) .nil)), by rfl, Sh.tail (l1 := [(p16, HO.lst [.ref p1, .ref p2, .ref p3, .ref p4, .ref p5, .ref p6, .ref p7, .ref p8, .ref p9, .str "12", .non, .int 7, .ref p10, .ref p11, .ref p12, .ref p13, .ref p14, .ref p15], true), (p15, HO.tup [.int 0, .bl false], true), (p14, HO.tup [.non, .non], true), (p13, HO.dK [], true), (p12, HO.tup [], true), (p11, HO.tup [.int 1, .str "2"], true), (p10, HO.tup [.str "1", .int 2], true), (p9, HO.lst [.int 1, .int 2], true), (p8, HO.tup [.int 1, .int 2, .int 3], true), (p7, HO.tup [.int 1], true), (p6, HO.tup [.int 1, .bl true], true), (p5, HO.tup [.bl true, .int 2], true), (p4, HO.tup [.non, .int 2], true), (p3, HO.tup [.int 1, .int (-1)], true), (p2, HO.tup [.int (-1), .int 2], true), (p1, HO.tup [.int 3, .int 2], true)]) S (by (purse 7023 => fail))⟩
  · exact ⟨.tuple [.none, .int 2], [(p4, HO.tup [.non, .int 2], true)], by decide +kernel, fun H2 h => .tup (h _ (.head _)) (.cons (.non) (.cons (.int _) .nil)), by rfl, Sh.tail (l1 := [(p16, HO.lst [.ref p1, .ref p2, .ref p3, .ref p4, .ref p5, .ref p6, .ref p7, .ref p8, .ref p9, .str "12", .non, .int 7, .ref p10, .ref p11, .ref p12, .ref p13, .ref p14, .ref p15], true), (p15, HO.tup [.int 0, .bl false], true), (p14, HO.tup [.non, .non], true), (p13, HO.dK [], true), (p12, HO.tup [], true), (p11, HO.tup [.int 1, .str "2"], true), (p10, HO.tup [.str "1", .int 2], true), (p9, HO.lst [.int 1, .int 2], true), (p8, HO.tup [.int 1, .int 2, .int 3], true), (p7, HO.tup [.int 1], true), (p6, HO.tup [.int 1, .bl true], true), (p5, HO.tup [.bl true, .int 2], true), (p4, HO.tup [.non, .int 2], true), (p3, HO.tup [.int 1, .int (-1)], true), (p2, HO.tup [.int (-1), .int 2], true), (p1, HO.tup [.int 3, .int 2], true)]) S (by (purse 7023 => fail))⟩
  · exact ⟨.tuple [.bool true, .int 2], [(p5, HO.tup [.bl true, .int 2], true)], by decide +kernel, fun H2 h => .tup (h _ (.head _)) (.cons (.bl _) (.cons (.int _) .nil)), by rfl, Sh.tail (l1 := [(p16, HO.lst [.ref p1, .ref p2, .ref p3, .ref p4, .ref p5, .ref p6, .ref p7, .ref p8, .ref p9, .str "12", .non, .int 7, .ref p10, .ref p11, .ref p12, .ref p13, .ref p14, .ref p15], true), (p15, HO.tup [.int 0, .bl false], true), (p14, HO.tup [.non, .non], true), (p13, HO.dK [], true), (p12, HO.tup [], true), (p11, HO.tup [.int 1, .str "2"], true), (p10, HO.tup [.str "1", .int 2], true), (p9, HO.lst [.int 1, .int 2], true), (p8, HO.tup [.int 1, .int 2, .int 3], true), (p7, HO.tup [.int 1], true), (p6, HO.tup [.int 1, .bl true], true), (p5, HO.tup [.bl true, .int 2], true), (p4, HO.tup [.non, .int 2], true), (p3, HO.tup [.int 1, .int (-1)], true), (p2, HO.tup [.int (-1), .int 2], true), (p1, HO.tup [.int 3, .int 2], true)]) S (by (purse 7023 => fail))⟩
  · exact ⟨.tuple [.int 1, .bool true], [(p6, HO.tup [.int 1, .bl true], true)], by decide +kernel, fun H2 h => .tup (h _ (.head _)) (.cons (.int _) (.cons (.bl _) .nil)), by rfl, Sh.tail (l1 := [(p16, HO.lst [.ref p1, .ref p2, .ref p3, .ref p4, .ref p5, .ref p6, .ref p7, .ref p8, .ref p9, .str "12", .non, .int 7, .ref p10, .ref p11, .ref p12, .ref p13, .ref p14, .ref p15], true), (p15, HO.tup [.int 0, .bl false], true), (p14, HO.tup [.non, .non], true), (p13, HO.dK [], true), (p12, HO.tup [], true), (p11, HO.tup [.int 1, .str "2"], true), (p10, HO.tup [.str "1", .int 2], true), (p9, HO.lst [.int 1, .int 2], true), (p8, HO.tup [.int 1, .int 2, .int 3], true), (p7, HO.tup [.int 1], true), (p6, HO.tup [.int 1, .bl true], true), (p5, HO.tup [.bl true, .int 2], true), (p4, HO.tup [.non, .int 2], true), (p3, HO.tup [.int 1, .int (-1)], true), (p2, HO.tup [.int (-1), .int 2], true), (p1, HO.tup [.int 3, .int 2], true)]) S (by (purse 7023 => fail))⟩
  · exact ⟨.tuple [.int 1], [(p7, HO.tup [.int 1], true)], by decide +kernel, fun H2 h => .tup (h _ (.head _)) (.cons (.int _) .nil), by rfl, Sh.tail (l1 := [(p16, HO.lst [.ref p1, .ref p2, .ref p3, .ref p4, .ref p5, .ref p6, .ref p7, .ref p8, .ref p9, .str "12", .non, .int 7, .ref p10, .ref p11, .ref p12, .ref p13, .ref p14, .ref p15], true), (p15, HO.tup [.int 0, .bl false], true), (p14, HO.tup [.non, .non], true), (p13, HO.dK [], true), (p12, HO.tup [], true), (p11, HO.tup [.int 1, .str "2"], true), (p10, HO.tup [.str "1", .int 2], true), (p9, HO.lst [.int 1, .int 2], true), (p8, HO.tup [.int 1, .int 2, .int 3], true), (p7, HO.tup [.int 1], true), (p6, HO.tup [.int 1, .bl true], true), (p5, HO.tup [.bl true, .int 2], true), (p4, HO.tup [.non, .int 2], true), (p3, HO.tup [.int 1, .int (-1)], true), (p2, HO.tup [.int (-1), .int 2], true), (p1, HO.tup [.int 3, .int 2], true)]) S (by (purse 7023 => fail))⟩
  · exact ⟨.tuple [.int 1, .int 2, .int 3], [(p8, HO.tup [.int 1, .int 2, .int 3], true)], by decide +kernel, fun H2 h => .tup (h _ (.head _)) (.cons (.int _) (.cons (.int _) (.cons (.int _) .nil))), by rfl, Sh.tail (l1 := [(p16, HO.lst [.ref p1, .ref p2, .ref p3, .ref p4, .ref p5, .ref p6, .ref p7, .ref p8, .ref p9, .str "12", .non, .int 7, .ref p10, .ref p11, .ref p12, .ref p13, .ref p14, .ref p15], true), (p15, HO.tup [.int 0, .bl false], true), (p14, HO.tup [.non, .non], true), (p13, HO.dK [], true), (p12, HO.tup [], true), (p11, HO.tup [.int 1, .str "2"], true), (p10, HO.tup [.str "1", .int 2], true), (p9, HO.lst [.int 1, .int 2], true), (p8, HO.tup [.int 1, .int 2, .int 3], true), (p7, HO.tup [.int 1], true), (p6, HO.tup [.int 1, .bl true], true), (p5, HO.tup [.bl true, .int 2], true), (p4, HO.tup [.non, .int 2], true), (p3, HO.tup [.int 1, .int (-1)], true), (p2, HO.tup [.int (-1), .int 2], true), (p1, HO.tup [.int 3, .int 2], true)]) S (by (purse 7023 => fail))⟩
  · exact ⟨.list [.int 1, .int 2], [(p9, HO.lst [.int 1, .int 2], true)], by decide +kernel, fun H2 h => .lst (h _ (.head _)) (.cons (.int _) (.cons (.int _) .nil)), by rfl, Sh.tail (l1 := [(p16, HO.lst [.ref p1, .ref p2, .ref p3, .ref p4, .ref p5, .ref p6, .ref p7, .ref p8, .ref p9, .str "12", .non, .int 7, .ref p10, .ref p11, .ref p12, .ref p13, .ref p14, .ref p15], true), (p15, HO.tup [.int 0, .bl false], true), (p14, HO.tup [.non, .non], true), (p13, HO.dK [], true), (p12, HO.tup [], true), (p11, HO.tup [.int 1, .str "2"], true), (p10, HO.tup [.str "1", .int 2], true), (p9, HO.lst [.int 1, .int 2], true), (p8, HO.tup [.int 1, .int 2, .int 3], true), (p7, HO.tup [.int 1], true), (p6, HO.tup [.int 1, .bl true], true), (p5, HO.tup [.bl true, .int 2], true), (p4, HO.tup [.non, .int 2], true), (p3, HO.tup [.int 1, .int (-1)], true), (p2, HO.tup [.int (-1), .int 2], true), (p1, HO.tup [.int 3, .int 2], true)]) S (by (purse 7023 => fail))⟩
  · exact ⟨.str "12", [], by decide +kernel, fun H2 h => .str _, by rfl, Sh.tail (l1 := [(p16, HO.lst [.ref p1, .ref p2, .ref p3, .ref p4, .ref p5, .ref p6, .ref p7, .ref p8, .ref p9, .str "12", .non, .int 7, .ref p10, .ref p11, .ref p12, .ref p13, .ref p14, .ref p15], true), (p15, HO.tup [.int 0, .bl false], true), (p14, HO.tup [.non, .non], true), (p13, HO.dK [], true), (p12, HO.tup [], true), (p11, HO.tup [.int 1, .str "2"], true), (p10, HO.tup [.str "1", .int 2], true), (p9, HO.lst [.int 1, .int 2], true), (p8, HO.tup [.int 1, .int 2, .int 3], true), (p7, HO.tup [.int 1], true), (p6, HO.tup [.int 1, .bl true], true), (p5, HO.tup [.bl true, .int 2], true), (p4, HO.tup [.non, .int 2], true), (p3, HO.tup [.int 1, .int (-1)], true), (p2, HO.tup [.int (-1), .int 2], true), (p1, HO.tup [.int 3, .int 2], true)]) S (by (purse 7023 => fail))⟩
  · exact ⟨.none, [], by decide +kernel, fun H2 h => .non, by rfl, Sh.tail (l1 := [(p16, HO.lst [.ref p1, .ref p2, .ref p3, .ref p4, .ref p5, .ref p6, .ref p7, .ref p8, .ref p9, .str "12", .non, .int 7, .ref p10, .ref p11, .ref p12, .ref p13, .ref p14, .ref p15], true), (p15, HO.tup [.int 0, .bl false], true), (p14, HO.tup [.non, .non], true), (p13, HO.dK [], true), (p12, HO.tup [], true), (p11, HO.tup [.int 1, .str "2"], true), (p10, HO.tup [.str "1", .int 2], true), (p9, HO.lst [.int 1, .int 2], true), (p8, HO.tup [.int 1, .int 2, .int 3], true), (p7, HO.tup [.int 1], true), (p6, HO.tup [.int 1, .bl true], true), (p5, HO.tup [.bl true, .int 2], true), (p4, HO.tup [.non, .int 2], true), (p3, HO.tup [.int 1, .int (-1)], true), (p2, HO.tup [.int (-1), .int 2], true), (p1, HO.tup [.int 3, .int 2], true)]) S (by (purse 7023 => fail))⟩
  · exact ⟨.int 7, [], by decide +kernel, fun H2 h => .int _, by rfl, Sh.tail (l1 := [(p16, HO.lst [.ref p1, .ref p2, .ref p3, .ref p4, .ref p5, .ref p6, .ref p7, .ref p8, .ref p9, .str "12", .non, .int 7, .ref p10, .ref p11, .ref p12, .ref p13, .ref p14, .ref p15], true), (p15, HO.tup [.int 0, .bl false], true), (p14, HO.tup [.non, .non], true), (p13, HO.dK [], true), (p12, HO.tup [], true), (p11, HO.tup [.int 1, .str "2"], true), (p10, HO.tup [.str "1", .int 2], true), (p9, HO.lst [.int 1, .int 2], true), (p8, HO.tup [.int 1, .int 2, .int 3], true), (p7, HO.tup [.int 1], true), (p6, HO.tup [.int 1, .bl true], true), (p5, HO.tup [.bl true, .int 2], true), (p4, HO.tup [.non, .int 2], true), (p3, HO.tup [.int 1, .int (-1)], true), (p2, HO.tup [.int (-1), .int 2], true), (p1, HO.tup [.int 3, .int 2], true)]) S (by (purse 7023 => fail))⟩
  · exact ⟨.tuple [.str "1", .int 2], [(p10, HO.tup [.str "1", .int 2], true)], by decide +kernel, fun H2 h => .tup (h _ (.head _)) (.cons (.str _) (.cons (.int _) .nil)), by rfl, Sh.tail (l1 := [(p16, HO.lst [.ref p1, .ref p2, .ref p3, .ref p4, .ref p5, .ref p6, .ref p7, .ref p8, .ref p9, .str "12", .non, .int 7, .ref p10, .ref p11, .ref p12, .ref p13, .ref p14, .ref p15], true), (p15, HO.tup [.int 0, .bl false], true), (p14, HO.tup [.non, .non], true), (p13, HO.dK [], true), (p12, HO.tup [], true), (p11, HO.tup [.int 1, .str "2"], true), (p10, HO.tup [.str "1", .int 2], true), (p9, HO.lst [.int 1, .int 2], true), (p8, HO.tup [.int 1, .int 2, .int 3], true), (p7, HO.tup [.int 1], true), (p6, HO.tup [.int 1, .bl true], true), (p5, HO.tup [.bl true, .int 2], true), (p4, HO.tup [.non, .int 2], true), (p3, HO.tup [.int 1, .int (-1)], true), (p2, HO.tup [.int (-1), .int 2], true), (p1, HO.tup [.int 3, .int 2], true)]) S (by (purse 7023 => fail))⟩
  · exact ⟨.tuple [.int 1, .str "2"], [(p11, HO.tup [.int 1, .str "2"], true)], by decide +kernel, fun H2 h => .tup (h _ (.head _)) (.cons (.int _) (.cons (.str _) .nil)), by rfl, Sh.tail (l1 := [(p16, HO.lst [.ref p1, .ref p2, .ref p3, .ref p4, .ref p5, .ref p6, .ref p7, .ref p8, .ref p9, .str "12", .non, .int 7, .ref p10, .ref p11, .ref p12, .ref p13, .ref p14, .ref p15], true), (p15, HO.tup [.int 0, .bl false], true), (p14, HO.tup [.non, .non], true), (p13, HO.dK [], true), (p12, HO.tup [], true), (p11, HO.tup [.int 1, .str "2"], true), (p10, HO.tup [.str "1", .int 2], true), (p9, HO.lst [.int 1, .int 2], true), (p8, HO.tup [.int 1, .int 2, .int 3], true), (p7, HO.tup [.int 1], true), (p6, HO.tup [.int 1, .bl true], true), (p5, HO.tup [.bl true, .int 2], true), (p4, HO.tup [.non, .int 2], true), (p3, HO.tup [.int 1, .int (-1)], true), (p2, HO.tup [.int (-1), .int 2], true), (p1, HO.tup [.int 3, .int 2], true)]) S (by (purse 7023 => fail))⟩
  · exact ⟨.tuple [], [(p12, HO.tup [], true)], by decide +kernel, fun H2 h => .tup (h _ (.head _)) .nil, by rfl, Sh.tail (l1 := [(p16, HO.lst [.ref p1, .ref p2, .ref p3, .ref p4, .ref p5, .ref p6, .ref p7, .ref p8, .ref p9, .str "12", .non, .int 7, .ref p10, .ref p11, .ref p12, .ref p13, .ref p14, .ref p15], true), (p15, HO.tup [.int 0, .bl false], true), (p14, HO.tup [.non, .non], true), (p13, HO.dK [], true), (p12, HO.tup [], true), (p11, HO.tup [.int 1, .str "2"], true), (p10, HO.tup [.str "1", .int 2], true), (p9, HO.lst [.int 1, .int 2], true), (p8, HO.tup [.int 1, .int 2, .int 3], true), (p7, HO.tup [.int 1], true), (p6, HO.tup [.int 1, .bl true], true), (p5, HO.tup [.bl true, .int 2], true), (p4, HO.tup [.non, .int 2], true), (p3, HO.tup [.int 1, .int (-1)], true), (p2, HO.tup [.int (-1), .int 2], true), (p1, HO.tup [.int 3, .int 2], true)]) S (by (purse 7023 => fail))⟩
  · exact ⟨.dict [], [(p13, HO.dK [], true)], by decide +kernel, fun H2 h => .d0 (h _ (.head _)), by rfl, Sh.tail (l1 := [(p16, HO.lst [.ref p1, .ref p2, .ref p3, .ref p4, .ref p5, .ref p6, .ref p7, .ref p8, .ref p9, .str "12", .non, .int 7, .ref p10, .ref p11, .ref p12, .ref p13, .ref p14, .ref p15], true), (p15, HO.tup [.int 0, .bl false], true), (p14, HO.tup [.non, .non], true), (p13, HO.dK [], true), (p12, HO.tup [], true), (p11, HO.tup [.int 1, .str "2"], true), (p10, HO.tup [.str "1", .int 2], true), (p9, HO.lst [.int 1, .int 2], true), (p8, HO.tup [.int 1, .int 2, .int 3], true), (p7, HO.tup [.int 1], true), (p6, HO.tup [.int 1, .bl true], true), (p5, HO.tup [.bl true, .int 2], true), (p4, HO.tup [.non, .int 2], true), (p3, HO.tup [.int 1, .int (-1)], true), (p2, HO.tup [.int (-1), .int 2], true), (p1, HO.tup [.int 3, .int 2], true)]) S (by (purse 7023 => fail))⟩
  · exact ⟨.tuple [.none, .none], [(p14, HO.tup [.non, .non], true)], by decide +kernel, fun H2 h => .tup (h _ (.head _)) (.cons (.non) (.cons (.non) .nil)), by rfl, Sh.tail (l1 := [(p16, HO.lst [.ref p1, .ref p2, .ref p3, .ref p4, .ref p5, .ref p6, .ref p7, .ref p8, .ref p9, .str "12", .non, .int 7, .ref p10, .ref p11, .ref p12, .ref p13, .ref p14, .ref p15], true), (p15, HO.tup [.int 0, .bl false], true), (p14, HO.tup [.non, .non], true), (p13, HO.dK [], true), (p12, HO.tup [], true), (p11, HO.tup [.int 1, .str "2"], true), (p10, HO.tup [.str "1", .int 2], true), (p9, HO.lst [.int 1, .int 2], true), (p8, HO.tup [.int 1, .int 2, .int 3], true), (p7, HO.tup [.int 1], true), (p6, HO.tup [.int 1, .bl true], true), (p5, HO.tup [.bl true, .int 2], true), (p4, HO.tup [.non, .int 2], true), (p3, HO.tup [.int 1, .int (-1)], true), (p2, HO.tup [.int (-1), .int 2], true), (p1, HO.tup [.int 3, .int 2], true)]) S (by (purse 7023 => fail))⟩
  · exact ⟨.tuple [.int 0, .bool false], [(p15, HO.tup [.int 0, .bl false], true)], by decide +kernel, fun H2 h => .tup (h _ (.head _)) (.cons (.int _) (.cons (.bl _) .nil)), by rfl, Sh.tail (l1 := [(p16, HO.lst [.ref p1, .ref p2, .ref p3, .ref p4, .ref p5, .ref p6, .ref p7, .ref p8, .ref p9, .str "12", .non, .int 7, .ref p10, .ref p11, .ref p12, .ref p13, .ref p14, .ref p15], true), (p15, HO.tup [.int 0, .bl false], true), (p14, HO.tup [.non, .non], true), (p13, HO.dK [], true), (p12, HO.tup [], true), (p11, HO.tup [.int 1, .str "2"], true), (p10, HO.tup [.str "1", .int 2], true), (p9, HO.lst [.int 1, .int 2], true), (p8, HO.tup [.int 1, .int 2, .int 3], true), (p7, HO.tup [.int 1], true), (p6, HO.tup [.int 1, .bl true], true), (p5, HO.tup [.bl true, .int 2], true), (p4, HO.tup [.non, .int 2], true), (p3, HO.tup [.int 1, .int (-1)], true), (p2, HO.tup [.int (-1), .int 2], true), (p1, HO.tup [.int 3, .int 2], true)]) S (by (purse 7023 => fail))⟩
theorem wrong_key {H0 H : Hp} {M : Addr → Prop} {l : List Ent} {p1 p2 p3 p4 p5 p6 p7 : Addr} {v : V} (S : Sh H0 M H ((p7, HO.lst [.non, .int 1, .str "1", .ref p1, .ref p2, .ref p3, .bl true, .ref p5, .str "", .ref p6], true) :: (p6, HO.tup [], true) :: (p5, HO.lst [.ref p4], true) :: (p4, HO.tup [.int 1, .int 2], true) :: (p3, HO.dK [], true) :: (p2, HO.tup [.int 1, .int 2], true) :: (p1, HO.lst [.int 1], true) :: l)) (hv : v ∈ ([.non, .int 1, .str "1", .ref p1, .ref p2, .ref p3, .bl true, .ref p5, .str "", .ref p6] : List V)) : ∃ d E, false = false ∧ PvE E v d ∧ softL E = true ∧ Sh H0 M H (l ++ E) := by
  simp only [List.mem_cons, List.not_mem_nil, or_false] at hv
  rcases hv with rfl | rfl | rfl | rfl | rfl | rfl | rfl | rfl | rfl | rfl
  · exact ⟨.none, [], by decide +kernel, fun H2 h => .non, by rfl, Sh.tail (l1 := [(p7, HO.lst [.non, .int 1, .str "1", .ref p1, .ref p2, .ref p3, .bl true, .ref p5, .str "", .ref p6], true), (p6, HO.tup [], true), (p5, HO.lst [.ref p4], true), (p4, HO.tup [.int 1, .int 2], true), (p3, HO.dK [], true), (p2, HO.tup [.int 1, .int 2], true), (p1, HO.lst [.int 1], true)]) S (by (purse 7023 => fail))⟩
  · exact ⟨.int 1, [], by decide +kernel, fun H2 h => .int _, by rfl, Sh.tail (l1 := [(p7, HO.lst [.non, .int 1, .str "1", .ref p1, .ref p2, .ref p3, .bl true, .ref p5, .str "", .ref p6], true), (p6, HO.tup [], true), (p5, HO.lst [.ref p4], true), (p4, HO.tup [.int 1, .int 2], true), (p3, HO.dK [], true), (p2, HO.tup [.int 1, .int 2], true), (p1, HO.lst [.int 1], true)]) S (by (purse 7023 => fail))⟩
  · exact ⟨.str "1", [], by decide +kernel, fun H2 h => .str _, by rfl, Sh.tail (l1 := [(p7, HO.lst [.non, .int 1, .str "1", .ref p1, .ref p2, .ref p3, .bl true, .ref p5, .str "", .ref p6], true), (p6, HO.tup [], true), (p5, HO.lst [.ref p4], true), (p4, HO.tup [.int 1, .int 2], true), (p3, HO.dK [], true), (p2, HO.tup [.int 1, .int 2], true), (p1, HO.lst [.int 1], true)]) S (by (purse 7023 => fail))⟩
  · exact ⟨.list [.int 1], [(p1, HO.lst [.int 1], true)], by decide +kernel, fun H2 h => .lst (h _ (.head _)) (.cons (.int _) .nil), by rfl, Sh.tail (l1 := [(p7, HO.lst [.non, .int 1, .str "1", .ref p1, .ref p2, .ref p3, .bl true, .ref p5, .str "", .ref p6], true), (p6, HO.tup [], true), (p5, HO.lst [.ref p4], true), (p4, HO.tup [.int 1, .int 2], true), (p3, HO.dK [], true), (p2, HO.tup [.int 1, .int 2], true), (p1, HO.lst [.int 1], true)]) S (by (purse 7023 => fail))⟩
  · exact ⟨.tuple [.int 1, .int 2], [(p2, HO.tup [.int 1, .int 2], true)], by decide +kernel, fun H2 h => .tup (h _ (.head _)) (.cons (.int _) (.cons (.int _) .nil)), by rfl, Sh.tail (l1 := [(p7, HO.lst [.non, .int 1, .str "1", .ref p1, .ref p2, .ref p3, .bl true, .ref p5, .str "", .ref p6], true), (p6, HO.tup [], true), (p5, HO.lst [.ref p4], true), (p4, HO.tup [.int 1, .int 2], true), (p3, HO.dK [], true), (p2, HO.tup [.int 1, .int 2], true), (p1, HO.lst [.int 1], true)]) S (by (purse 7023 => fail))⟩
  · exact ⟨.dict [], [(p3, HO.dK [], true)], by decide +kernel, fun H2 h => .d0 (h _ (.head _)), by rfl, Sh.tail (l1 := [(p7, HO.lst [.non, .int 1, .str "1", .ref p1, .ref p2, .ref p3, .bl true, .ref p5, .str "", .ref p6], true), (p6, HO.tup [], true), (p5, HO.lst [.ref p4], true), (p4, HO.tup [.int 1, .int 2], true), (p3, HO.dK [], true), (p2, HO.tup [.int 1, .int 2], true), (p1, HO.lst [.int 1], true)]) S (by (purse 7023 => fail))⟩
  · exact ⟨.bool true, [], by decide +kernel, fun H2 h => .bl _, by rfl, Sh.tail (l1 := [(p7, HO.lst [.non, .int 1, .str "1", .ref p1, .ref p2, .ref p3, .bl true, .ref p5, .str "", .ref p6], true), (p6, HO.tup [], true), (p5, HO.lst [.ref p4], true), (p4, HO.tup [.int 1, .int 2], true), (p3, HO.dK [], true), (p2, HO.tup [.int 1, .int 2], true), (p1, HO.lst [.int 1], true)]) S (by (purse 7023 => fail))⟩
  · exact ⟨.list [.tuple [.int 1, .int 2]], [(p5, HO.lst [.ref p4], true), (p4, HO.tup [.int 1, .int 2], true)], by decide +kernel, fun H2 h => .lst (h _ (.head _)) (.cons (.tup (h _ (.tail _ (.head _))) (.cons (.int _) (.cons (.int _) .nil))) .nil), by rfl, Sh.tail (l1 := [(p7, HO.lst [.non, .int 1, .str "1", .ref p1, .ref p2, .ref p3, .bl true, .ref p5, .str "", .ref p6], true), (p6, HO.tup [], true), (p5, HO.lst [.ref p4], true), (p4, HO.tup [.int 1, .int 2], true), (p3, HO.dK [], true), (p2, HO.tup [.int 1, .int 2], true), (p1, HO.lst [.int 1], true)]) S (by (purse 7023 => fail))⟩
  · exact ⟨.str "", [], by decide +kernel, fun H2 h => .str _, by rfl, Sh.tail (l1 := [(p7, HO.lst [.non, .int 1, .str "1", .ref p1, .ref p2, .ref p3, .bl true, .ref p5, .str "", .ref p6], true), (p6, HO.tup [], true), (p5, HO.lst [.ref p4], true), (p4, HO.tup [.int 1, .int 2], true), (p3, HO.dK [], true), (p2, HO.tup [.int 1, .int 2], true), (p1, HO.lst [.int 1], true)]) S (by (purse 7023 => fail))⟩
  · exact ⟨.tuple [], [(p6, HO.tup [], true)], by decide +kernel, fun H2 h => .tup (h _ (.head _)) .nil, by rfl, Sh.tail (l1 := [(p7, HO.lst [.non, .int 1, .str "1", .ref p1, .ref p2, .ref p3, .bl true, .ref p5, .str "", .ref p6], true), (p6, HO.tup [], true), (p5, HO.lst [.ref p4], true), (p4, HO.tup [.int 1, .int 2], true), (p3, HO.dK [], true), (p2, HO.tup [.int 1, .int 2], true), (p1, HO.lst [.int 1], true)]) S (by (purse 7023 => fail))⟩
theorem step_key {H0 H : Hp} {M : Addr → Prop} {l : List Ent} {p1 p2 p3 p4 p5 x0 : Addr} {v : V} (S : Sh H0 M H ((p5, HO.lst [.non, .int (-1), .str "1", .ref p1, .ref p2, .ref p3, .bl true, .str "", .ref p4, .ref x0], true) :: (p4, HO.tup [], true) :: (p3, HO.dK [], true) :: (p2, HO.tup [.int 1, .int 2], true) :: (p1, HO.lst [.int 1], true) :: l)) (hv : v ∈ ([.non, .int (-1), .str "1", .ref p1, .ref p2, .ref p3, .bl true, .str "", .ref p4, .ref x0] : List V)) : ∃ E, softL E = true ∧ Sh H0 M H (l ++ E) ∧ (v = .ref x0 ∨ ∃ d, pairB (.tuple [d, d]) = false ∧ PvE E v d) := by
  simp only [List.mem_cons, List.not_mem_nil, or_false] at hv
  rcases hv with rfl | rfl | rfl | rfl | rfl | rfl | rfl | rfl | rfl | rfl
  · exact ⟨[], by rfl, Sh.tail (l1 := [(p5, HO.lst [.non, .int (-1), .str "1", .ref p1, .ref p2, .ref p3, .bl true, .str "", .ref p4, .ref x0], true), (p4, HO.tup [], true), (p3, HO.dK [], true), (p2, HO.tup [.int 1, .int 2], true), (p1, HO.lst [.int 1], true)]) S (by (purse 7023 => fail)), .inr ⟨.none, by decide +kernel, fun H2 h => .non⟩⟩
  · exact ⟨[], by rfl, Sh.tail (l1 := [(p5, HO.lst [.non, .int (-1), .str "1", .ref p1, .ref p2, .ref p3, .bl true, .str "", .ref p4, .ref x0], true), (p4, HO.tup [], true), (p3, HO.dK [], true), (p2, HO.tup [.int 1, .int 2], true), (p1, HO.lst [.int 1], true)]) S (by (purse 7023 => fail)), .inr ⟨.int (-1), by decide +kernel, fun H2 h => .int _⟩⟩
  · exact ⟨[], by rfl, Sh.tail (l1 := [(p5, HO.lst [.non, .int (-1), .str "1", .ref p1, .ref p2, .ref p3, .bl true, .str "", .ref p4, .ref x0], true), (p4, HO.tup [], true), (p3, HO.dK [], true), (p2, HO.tup [.int 1, .int 2], true), (p1, HO.lst [.int 1], true)]) S (by (purse 7023 => fail)), .inr ⟨.str "1", by decide +kernel, fun H2 h => .str _⟩⟩
  · exact ⟨[(p1, HO.lst [.int 1], true)], by rfl, Sh.tail (l1 := [(p5, HO.lst [.non, .int (-1), .str "1", .ref p1, .ref p2, .ref p3, .bl true, .str "", .ref p4, .ref x0], true), (p4, HO.tup [], true), (p3, HO.dK [], true), (p2, HO.tup [.int 1, .int 2], true), (p1, HO.lst [.int 1], true)]) S (by (purse 7023 => fail)), .inr ⟨.list [.int 1], by decide +kernel, fun H2 h => .lst (h _ (.head _)) (.cons (.int _) .nil)⟩⟩
  · exact ⟨[(p2, HO.tup [.int 1, .int 2], true)], by rfl, Sh.tail (l1 := [(p5, HO.lst [.non, .int (-1), .str "1", .ref p1, .ref p2, .ref p3, .bl true, .str "", .ref p4, .ref x0], true), (p4, HO.tup [], true), (p3, HO.dK [], true), (p2, HO.tup [.int 1, .int 2], true), (p1, HO.lst [.int 1], true)]) S (by (purse 7023 => fail)), .inr ⟨.tuple [.int 1, .int 2], by decide +kernel, fun H2 h => .tup (h _ (.head _)) (.cons (.int _) (.cons (.int _) .nil))⟩⟩
  · exact ⟨[(p3, HO.dK [], true)], by rfl, Sh.tail (l1 := [(p5, HO.lst [.non, .int (-1), .str "1", .ref p1, .ref p2, .ref p3, .bl true, .str "", .ref p4, .ref x0], true), (p4, HO.tup [], true), (p3, HO.dK [], true), (p2, HO.tup [.int 1, .int 2], true), (p1, HO.lst [.int 1], true)]) S (by (purse 7023 => fail)), .inr ⟨.dict [], by decide +kernel, fun H2 h => .d0 (h _ (.head _))⟩⟩
  · exact ⟨[], by rfl, Sh.tail (l1 := [(p5, HO.lst [.non, .int (-1), .str "1", .ref p1, .ref p2, .ref p3, .bl true, .str "", .ref p4, .ref x0], true), (p4, HO.tup [], true), (p3, HO.dK [], true), (p2, HO.tup [.int 1, .int 2], true), (p1, HO.lst [.int 1], true)]) S (by (purse 7023 => fail)), .inr ⟨.bool true, by decide +kernel, fun H2 h => .bl _⟩⟩
  · exact ⟨[], by rfl, Sh.tail (l1 := [(p5, HO.lst [.non, .int (-1), .str "1", .ref p1, .ref p2, .ref p3, .bl true, .str "", .ref p4, .ref x0], true), (p4, HO.tup [], true), (p3, HO.dK [], true), (p2, HO.tup [.int 1, .int 2], true), (p1, HO.lst [.int 1], true)]) S (by (purse 7023 => fail)), .inr ⟨.str "", by decide +kernel, fun H2 h => .str _⟩⟩
  · exact ⟨[(p4, HO.tup [], true)], by rfl, Sh.tail (l1 := [(p5, HO.lst [.non, .int (-1), .str "1", .ref p1, .ref p2, .ref p3, .bl true, .str "", .ref p4, .ref x0], true), (p4, HO.tup [], true), (p3, HO.dK [], true), (p2, HO.tup [.int 1, .int 2], true), (p1, HO.lst [.int 1], true)]) S (by (purse 7023 => fail)), .inr ⟨.tuple [], by decide +kernel, fun H2 h => .tup (h _ (.head _)) .nil⟩⟩
  · exact ⟨[], by rfl, Sh.tail (l1 := [(p5, HO.lst [.non, .int (-1), .str "1", .ref p1, .ref p2, .ref p3, .bl true, .str "", .ref p4, .ref x0], true), (p4, HO.tup [], true), (p3, HO.dK [], true), (p2, HO.tup [.int 1, .int 2], true), (p1, HO.lst [.int 1], true)]) S (by (purse 7023 => fail)), .inl rfl⟩

/-! what is changed are lists alone: sets stay -/
def LstM (H : Hp) (M : Addr → Prop) : Prop := ∀ b o, H b = some o → M b → ∃ xs, o = HO.lst xs
def lstO : HO → Bool
  | .lst _ => true
  | _ => false
def lstL (l : List Ent) : Bool := l.all fun e => (!e.2.2 || lstO e.2.1) && !tblO e.2.1
theorem lstL_n : lstL [] = true := rfl
theorem lstL_c {e : Ent} {r : List Ent} (h : ((!e.2.2 || lstO e.2.1) && !tblO e.2.1) = true) (h2 : lstL r = true) : lstL (e :: r) = true := Bool.and_eq_true_iff.mpr ⟨h, h2⟩
theorem lstO_soft {o : HO} (h : lstO o = true) : softO o = true := by
  unfold lstO at h
  split at h
  · rfl
  · cases h
theorem lstL_soft {l : List Ent} (h : lstL l = true) : softL l = true := List.all_eq_true.mpr fun e he => by
  obtain ⟨h1, h2⟩ := Bool.and_eq_true_iff.mp (List.all_eq_true.mp h e he)
  refine Bool.and_eq_true_iff.mpr ⟨?_, h2⟩
  cases hb : e.2.2 with
  | false => rfl
  | true => rw [hb] at h1; exact lstO_soft h1
theorem lstL_frz {E : List Ent} (h : softL E = true) : lstL (frz E) = true := by
  refine List.all_eq_true.mpr fun e he => ?_
  obtain ⟨e', he', rfl⟩ := List.mem_map.mp he
  have h1 := (Bool.and_eq_true_iff.mp (List.all_eq_true.mp h e' he')).2
  exact Bool.and_eq_true_iff.mpr ⟨rfl, h1⟩
theorem LstM.soft {H : Hp} {M : Addr → Prop} (h : LstM H M) : Soft H M := fun b o e m => by
  obtain ⟨xs, rfl⟩ := h b o e m
  rfl
theorem LstM.mu {H0 H : Hp} {M : Addr → Prop} {l : List Ent} (S : Sh H0 M H l) (hl : lstL l = true) : LstM H (Mu l) := fun b o hb ⟨e, he, hm, hb'⟩ => by
  have h1 := (Bool.and_eq_true_iff.mp (List.all_eq_true.mp hl e he)).1
  have h2 := S.has e he
  rw [hb', hb] at h2
  rw [hm] at h1
  rw [Option.some.inj h2]
  cases q : e.2.1 with
  | lst xs => exact ⟨xs, rfl⟩
  | _ => rw [q] at h1; cases h1
def tiO : HO → Bool
  | .tup _ => true
  | .ins _ _ _ => true
  | _ => false
def UpT (H H' : Hp) : Prop := ∀ b o, tiO o = true → H b = some o → H' b = some o
theorem UpT.of {H0 H : Hp} {M : Addr → Prop} {l : List Ent} (S : Sh H0 M H l) (lm : LstM H0 M) : UpT H0 H := fun b o h e => S.fr b o e fun z => by
  obtain ⟨xs, rfl⟩ := lm b o e z
  cases h
theorem UpT.extN {H H' : Hp} (c : ExtN H H') : UpT H H' := fun b o h e => c b o e fun ps z => by rw [z] at h; cases h
theorem PrL.upT {H H' : Hp} (u : UpT H H') : ∀ {vs : List V} {l : List Pr}, PrL H vs l → PrL H' vs l
  | _, _, .nil => .nil
  | _, _, .cons h r => .cons (u _ _ rfl h) (PrL.upT u r)
theorem Ss.upT {C x : Addr} {H H' : Hp} {l : List Pr} (u : UpT H H') : Ss C H x l → Ss C H' x l := fun ⟨dx, t, h, vs, ht, r⟩ => ⟨dx, t, u _ _ rfl h, vs, u _ _ rfl ht, PrL.upT u r⟩
section
variable {H0 H : Hp} {M : Addr → Prop} {l : List Ent} {T : List (Addr × Str)} {K : PySem.W.Frag} {a : Addr} {xs : List V} {q : Str} {cells : List (Str × Addr)} {params : Arguments} {body : Expr} {scope : Scope} {σ : L2.St} {Q : VK}
/-- lambda: body, told anew behind it, a set beside it -/
theorem g_lamS {C x : Addr} {cc : List Pr} (S : Sh H0 M H l) (lm : LstM H0 M) (t : Tabs T H0) (hF : SqF K H0 a xs) (ss : Ss C H0 x cc) (hl : lstL l = true)
    (k : ∀ f c' H1, Sh H1 (Mu l) H1 ((f, LamO q cells params body scope c' f, false) :: (c', CodeO c' (q ++ "<lambda>"), false) :: l) → LstM H1 (Mu l) → Tabs T H1 → SqF K H1 a xs → Ss C H1 x cc → Q (.ref f) H1) : tLamV T q cells params body scope σ H Q :=
  ⟨AF.Tabs.along t S lm.soft, fun f c' H1 md => k f c' H1 (S.lam (lstL_soft hl) md) (LstM.mu (S.extN (lstL_soft hl) md.ext) hl) md.tabs ((hF.along S lm.soft).extN md.ext) (Ss.upT (UpT.extN md.ext) (Ss.upT (UpT.of S lm) ss))⟩
/-- a call of one of several lambdas that raises -/
theorem g_actM {C : Addr} {fn : Str} {ds : List LamD} {d : LamD} {f c' : Addr} (hd : d ∈ ds) (o1 : H f = some (LamO q cells d.params d.body d.scope c' f)) (o2 : H c' = some (CodeO c' (q ++ "<lambda>")))
    (k : ∀ (E : XK) (Q' : VK), (∀ (dd : Addr) (v : V) (H3 : Hp), H3 dd = some (.xd [(fn, v)]) → (∀ H4, Ch [] H3 H4 → Q v H4) → E (.ref C) (some dd) H3) → d.t E σ H Q') : kAct q cells ds (TTi C fn) σ Q (.ref f) H :=
  ⟨f, c', d, hd, rfl, o1, o2, fun E Q' hw => k E Q' fun dd v H3 hx fin => hw _ _ _ ⟨dd, v, rfl, rfl, hx, fin⟩⟩
end
local macro_rules | `(tactic| purse 7027 => fail) => `(tactic| (repeat (first | assumption | exact lstL_n | refine lstL_c (by rfl) ?_)))
theorem g_bml {K : PySem.W.Frag} {H : Hp} {Q : VK} {p : Addr} {xs : List V} {r : V → List V → Hp → VK → Prop} {t : TA} {σ : L2.St} (h : H p = some (.lst xs)) (q : t σ H fun vs H2 => r (.ref p) vs H2 Q) : kBM K "list" r t σ Q (.ref p) H := ⟨.inl ⟨rfl, xs, SqL.of h⟩, q⟩
theorem g_apd {H0 H : Hp} {M : Addr → Prop} {l l' : List Ent} {p : Addr} {xs ys : List V} {y : V} {Q : VK} (S : Sh H0 M H l) (r : Rep l p (.lst xs) (.lst ys) l') (e : xs ++ [y] = ys) (hn : xs.length < 1000) (q : ∀ H', Sh H0 M H' l' → Q .non H') : rAppend (.ref p) [y] H Q :=
  ⟨p, xs, y, rfl, rfl, S.has _ r.mem, line1000 (Nat.le_of_lt hn), q _ (e ▸ S.put r)⟩
theorem g_eachl1n {i : Nat} {tb : TS} {nx bk ct : L2.St → Hp → Prop} {rt : VK} {σ σ' : L2.St} {H : Hp} {d : Addr} {u : HO} {x : V} {r : List V} [s : SetI σ i x σ'] (hd : H d = some u)
    (q : tb ⟨EachL (gName i) tb ⟨nx, rt, bk, ct⟩ d u r, rt, nx, EachL (gName i) tb ⟨nx, rt, bk, ct⟩ d u r⟩ σ' H) : EachL (gName i) tb ⟨nx, rt, bk, ct⟩ d u (x :: r) σ H := g_eachl1 hd (by
  show tb _ (σ.set i (some x)) H
  rw [s.eq]
  exact q)
/-- one statement by itself: what stands stays -/
theorem g_cutS {t : TS} {nx : L2.St → Hp → Prop} {rt : VK} {bk ct : L2.St → Hp → Prop} {σ : L2.St} {H : Hp} (a : ∀ nx' : L2.St → Hp → Prop, (∀ H', Ch [] H H' → nx' σ H') → t ⟨nx', rt, bk, ct⟩ σ H) (b : ∀ H', Ch [] H H' → nx σ H') : t ⟨nx, rt, bk, ct⟩ σ H := a nx b
theorem ch_tr {H H1 H2 : Hp} (c1 : Ch [] H H1) (c2 : Ch [] H1 H2) : Ch [] H H2 := fun b o h n => c2 b o (c1 b o h n) n
theorem ch_rfl {H : Hp} : Ch [] H H := fun _ _ h _ => h
section
variable {H0 H : Hp} {M : Addr → Prop} {l : List Ent} {T : List (Addr × Str)} {K : PySem.W.Frag} {a : Addr} {xs : List V} {q : Str} {cells : List (Str × Addr)} {params : Arguments} {body : Expr} {scope : Scope} {σ : L2.St} {Q : VK}
theorem g_actiS {C C' x : Addr} {cc : List Pr} {fn : Str} {t : XK → TE} (S : Sh H0 M H l) (lm : LstM H0 M) (tb : Tabs T H0) (hF : SqF K H0 a xs) (ss : Ss C' H0 x cc) (hl : lstL l = true)
    (k : ∀ (H1 : Hp) (E : XK) (Q' : VK), LstM H1 (Mu l) → Tabs T H1 → SqF K H1 a xs → Ss C' H1 x cc → Sh H1 (Mu l) H1 l → (∀ (dd : Addr) (v : V) (H3 : Hp), H3 dd = some (.xd [(fn, v)]) → (∀ H4, Ch [] H3 H4 → Q v H4) → E (.ref C) (some dd) H3) → t E σ H1 Q') :
    tLamV T q cells params body scope σ H (kAct q cells [⟨params, body, scope, t⟩] (TTi C fn) σ Q) :=
  g_acti S lm.soft tb (lstL_soft hl) fun H1 E Q' e sf tb1 S1 fin => k H1 E Q' (LstM.mu S1 hl) tb1 ((hF.along S lm.soft).extN e) (Ss.upT (UpT.extN e) (Ss.upT (UpT.of S lm) ss)) S1 fin
end

section
open He
variable {P : Program} {w : World} {K : PySem.W.Frag} {mg : Str → Option Value} {base : Heap} {f : Addr} {fd : FuncData}
theorem ok_law {xs : List Str} {fdR : FuncData} (F : FnP K "law" "law" s_law (ga K "law") fd) (T : TW K w mg) (FR : FnP K "_law_refused" "_law_refused" s_law_refused (ga K "_law_refused") fdR) (bR : Binds K fdR ["call"] []) (DL : Mkr K mg base xs "law")
    (D_law_draw : Dn P w K mg base 2 (ga K "_law_draw") ["source", "amount"] spDraw) (D_law_source : Dn P w K mg base 2 (ga K "_law_source") ["script", "turn"] (spSource K)) (D_law_pick : Dn P w K mg base 4 (ga K "_law_pick") ["source", "items"] spPick)
    (D_law_of : Dn P w K mg base 12 (ga K "_law_of") ["pairs"] (spOf (ga K "Stretches"))) (D_ofE : Dn P w K mg base 12 (ga K "_law_of") ["pairs"] (spOfE (ga K "Stretches") (ga K "NoStretch"))) (D_oneE : Dn P w K mg base 12 (He5.wf K (ga K "Stretches") "staticmethod" "one") ["n"] (spOneE (ga K "Stretches") (ga K "NoStretch")))
    (D_andE : Dn P w K mg base 12 (ma K (ga K "Stretches") "__and__") ["self", "other"] (spOpE (ga K "Stretches") (ga K "NoStretch"))) (D_orE : Dn P w K mg base 12 (ma K (ga K "Stretches") "__or__") ["self", "other"] (spOpE (ga K "Stretches") (ga K "NoStretch"))) (D_subE : Dn P w K mg base 12 (ma K (ga K "Stretches") "__sub__") ["self", "other"] (spOpE (ga K "Stretches") (ga K "NoStretch")))
    (D_leE : Dn P w K mg base 12 (ma K (ga K "Stretches") "__le__") ["self", "other"] (spOpE (ga K "Stretches") (ga K "NoStretch"))) (D_addE : Dn P w K mg base 14 (ma K (ga K "Stretches") "__add__") ["self", "other"] (spAddE (ga K "Stretches") (ga K "NoStretch"))) (D_raddE : Dn P w K mg base 16 (ma K (ga K "Stretches") "__radd__") ["self", "other"] (spAddE (ga K "Stretches") (ga K "NoStretch")))
    (H_spread : Hn P w K mg base 12 (ga K "Stretches") "spread" (spSpreadE (ga K "Stretches") (ga K "NoStretch"))) (D_eq : Dn P w K mg base 4 (ma K (ga K "Stretches") "__eq__") ["self", "other"] (spEqS (ga K "Stretches"))) :
    FnG P w K mg base (L2.CX P w) 24 (ga K "law") fd ["script"] (spLaw K xs) := by
  refine FunD.okC F c_law (fun vs H Q E h => ?_) (fun cdv A outer s H vs Q E hc hG hr h => ⟨_, pss_cons (ps_for (passes_of rfl) rfl (pi_range1 rfl T.z_range (pa_cons (pe_callB (cl_max rfl) (by rfl) T.z_max (by decide +kernel) (pa_cons (pe_int) (pa_cons (pe_callB (cl_min rfl) (by rfl) T.z_min (by decide +kernel) (pa_cons (pe_callB cl_len (by rfl) T.z_len (by decide +kernel) (pa_cons (pv 0) (pa_nil))) (pa_cons (pe_int) (pa_nil)))) (pa_nil)))) (pa_nil))) (pg_name (i := 1) c_law.nd rfl (Or.inl rfl))
      (pss_cons (ps_set (i := 12) c_law.nd rfl (Or.inr rfl) (pe_dn D_law_source (rm hr) rfl T.g_law_source (passes_call (takes_of rfl rfl rfl rfl) fun _ _ _ _ h => h) (pa_cons (pv 0) (pa_cons (pv 1) (pa_nil)))))
      (pss_cons (ps_setLc (i := 2) (own := [("low", 15)]) (g := gName 15) (tt := tYes) rfl c_law.nd rfl rfl (sw_true rfl rfl rfl rfl) (pi_list (pe_lst (pa_cons (pe_dn D_law_draw (rm hr) rfl T.g_law_draw (passes_call (takes_of rfl rfl rfl rfl) fun _ _ _ _ h => h) (pa_cons (pv 12) (pa_cons (pe_int) (pa_nil)))) (pa_cons (pe_dn D_law_draw (rm hr) rfl T.g_law_draw (passes_call (takes_of rfl rfl rfl rfl) fun _ _ _ _ h => h) (pa_cons (pv 12) (pa_cons (pe_int) (pa_nil)))) (pa_nil))))) (blkOk_by (own := [("low", 15)]) (N := ["script", "turn", "pairs", "at", "calls", "call", "more", "later", "least", "most", "odd", "sets", "source", "step", "wrong", "low"]) (sc := defScope s_law) (by decide +kernel)) (fun _ _ _ _ _ => pg_name (i := 15) c_law.nd rfl (Or.inl rfl)) (fun _ _ _ _ _ => pts_nil) (fun _ _ _ _ _ => pe_tup (pa_cons (pv 15) (pa_cons (pe_op op_add (pv 15) (pe_dn D_law_draw (rm hr) rfl T.g_law_draw passL (pa_cons (pv 12) (pa_cons (pe_int) (pa_nil))))) (pa_nil)))))
      (pss_cons (ps_set (i := 10) c_law.nd rfl (Or.inr rfl) (pe_dn D_law_pick (rm hr) rfl T.g_law_pick (passes_call (takes_of rfl rfl rfl rfl) fun _ _ _ _ h => h) (pa_cons (pv 12) (pa_cons (pe_lst (pa_cons (pe_tup (pa_cons (pe_int) (pa_cons (pe_int) (pa_nil)))) (pa_cons (pe_tup (pa_cons (pe_un un_neg (pe_int)) (pa_cons (pe_int) (pa_nil)))) (pa_cons (pe_tup (pa_cons (pe_int) (pa_cons (pe_un un_neg (pe_int)) (pa_nil)))) (pa_cons (pe_tup (pa_cons (pe_non) (pa_cons (pe_int) (pa_nil)))) (pa_cons (pe_tup (pa_cons (pe_bl) (pa_cons (pe_int) (pa_nil)))) (pa_cons (pe_tup (pa_cons (pe_int) (pa_cons (pe_bl) (pa_nil)))) (pa_cons (pe_tup (pa_cons (pe_int) (pa_nil))) (pa_cons (pe_tup (pa_cons (pe_int) (pa_cons (pe_int) (pa_cons (pe_int) (pa_nil))))) (pa_cons (pe_lst (pa_cons (pe_int) (pa_cons (pe_int) (pa_nil)))) (pa_cons (pe_str) (pa_cons (pe_non) (pa_cons (pe_int) (pa_cons (pe_tup (pa_cons (pe_str) (pa_cons (pe_int) (pa_nil)))) (pa_cons (pe_tup (pa_cons (pe_int) (pa_cons (pe_str) (pa_nil)))) (pa_cons (pe_tup (pa_nil)) (pa_cons (pe_dnewK) (pa_cons (pe_tup (pa_cons (pe_non) (pa_cons (pe_non) (pa_nil)))) (pa_cons (pe_tup (pa_cons (pe_int) (pa_cons (pe_bl) (pa_nil)))) (pa_nil)))))))))))))))))))) (pa_nil)))))
      (pss_cons (ps_set (i := 3) c_law.nd rfl (Or.inl rfl) (pe_dn D_law_draw (rm hr) rfl T.g_law_draw (passes_call (takes_of rfl rfl rfl rfl) fun _ _ _ _ h => h) (pa_cons (pv 12) (pa_cons (pe_int) (pa_nil)))))
      (pss_cons (ps_set (i := 7) c_law.nd rfl (Or.inr rfl) (pe_op op_cat (pe_op op_cat (pe_slice sl_list (pv 2) po_none (po_some (pv 3))) (pe_lst (pa_cons (pv 10) (pa_nil)))) (pe_slice sl_list (pv 2) (po_some (pv 3)) po_none)))
      (pss_cons (ps_if (pt_cmpR op_ne (pe_act1 (k := 18) FR bR c_law_refused rfl (Or.inl rfl) (fun _ => act_refused (k := 10) (rm hr) T.toTRf) (rm hr) rfl T.g_law_refused (lamS_by (sc := defScope s_law) (by decide +kernel)) (fun _ _ _ _ _ => rfl) (fun A1 o1 s1 H1 E1 f1 c1 hr => (pe_dn D_ofE (rm hr) rfl T.g_law_of (passes_call (takes_of rfl rfl rfl rfl) fun _ _ _ _ h => h) (pa_cons (pv 7) (pa_nil)))) (pe_lam1 DL hc rfl rfl (fun I => I.ok) (lamS_by (sc := defScope s_law) (by decide +kernel)) rfl)) (pv 3) (nomark _))
      (pss_one (ps_ret (pe_bl)))
      (pss_nil))
      (pss_cons (ps_if (pt_cmpR op_ne (pe_act1 (k := 18) FR bR c_law_refused rfl (Or.inl rfl) (fun _ => act_refused (k := 10) (rm hr) T.toTRf) (rm hr) rfl T.g_law_refused (lamS_by (sc := defScope s_law) (by decide +kernel)) (fun _ _ _ _ _ => rfl) (fun A1 o1 s1 H1 E1 f1 c1 hr => (pe_dn D_ofE (rm hr) rfl T.g_law_of (passes_call (takes_of rfl rfl rfl rfl) fun _ _ _ _ h => h) (pa_cons (pe_slice (sl_listK (K := K)) (pe_lst (pa_cons (pv 10) (pa_cons (pv 10) (pa_cons (pv 10) (pa_nil))))) po_none (po_some (pe_op op_add (pe_int) (pe_dn D_law_draw (rm hr) rfl T.g_law_draw (passes_call (takes_of rfl rfl rfl rfl) fun _ _ _ _ h => h) (pa_cons (pv 12) (pa_cons (pe_int) (pa_nil))))))) (pa_nil)))) (pe_lam1 DL hc rfl rfl (fun I => I.ok) (lamS_by (sc := defScope s_law) (by decide +kernel)) rfl)) (pe_int) (nomark _))
      (pss_one (ps_ret (pe_bl)))
      (pss_nil))
      (pss_cons (ps_set (i := 11) c_law.nd rfl (Or.inr rfl) (pe_dn D_law_of (rm hr) rfl T.g_law_of (passes_call (takes_of rfl rfl rfl rfl) fun _ _ _ _ h => h) (pa_cons (pv 2) (pa_nil))))
      (pss_cons (ps_set (i := 14) c_law.nd rfl (Or.inr rfl) (pe_dn D_law_pick (rm hr) rfl T.g_law_pick (passes_call (takes_of rfl rfl rfl rfl) fun _ _ _ _ h => h) (pa_cons (pv 12) (pa_cons (pe_lst (pa_cons (pe_non) (pa_cons (pe_int) (pa_cons (pe_str) (pa_cons (pe_lst (pa_cons (pe_int) (pa_nil))) (pa_cons (pe_tup (pa_cons (pe_int) (pa_cons (pe_int) (pa_nil)))) (pa_cons (pe_dnewK) (pa_cons (pe_bl) (pa_cons (pe_lst (pa_cons (pe_tup (pa_cons (pe_int) (pa_cons (pe_int) (pa_nil)))) (pa_nil))) (pa_cons (pe_str) (pa_cons (pe_tup (pa_nil)) (pa_nil)))))))))))) (pa_nil)))))
      (pss_cons (ps_set (i := 4) c_law.nd rfl (Or.inl rfl) (pe_lst (pa_cons (pe_lam1 DL hc rfl rfl (fun I => I.ok) (lamS_by (sc := defScope s_law) (by decide +kernel)) rfl) (pa_nil))))
      (pss_cons (ps_expr (pe_bm PySem.F.plainAttrs_list PySem.F.slot_list_append PySem.F.type_list_append mt_append (pv 4) (pa_cons (pe_lam1 DL hc rfl rfl (fun I => I.ok) (lamS_by (sc := defScope s_law) (by decide +kernel)) rfl) (pa_nil))))
      (pss_cons (ps_expr (pe_bm PySem.F.plainAttrs_list PySem.F.slot_list_append PySem.F.type_list_append mt_append (pv 4) (pa_cons (pe_lam1 DL hc rfl rfl (fun I => I.ok) (lamS_by (sc := defScope s_law) (by decide +kernel)) rfl) (pa_nil))))
      (pss_cons (ps_expr (pe_bm PySem.F.plainAttrs_list PySem.F.slot_list_append PySem.F.type_list_append mt_append (pv 4) (pa_cons (pe_lam1 DL hc rfl rfl (fun I => I.ok) (lamS_by (sc := defScope s_law) (by decide +kernel)) rfl) (pa_nil))))
      (pss_cons (ps_for (passes_of rfl) rfl (pi_list (pv 4)) (pg_name (i := 5) c_law.nd rfl (Or.inl rfl))
      (pss_one (ps_if (pt_cmpR op_notN (pe_actN (k := 18) FR bR c_law_refused rfl (Or.inl rfl) (fun _ => act_refused (k := 10) (rm hr) T.toTRf) (rm hr) rfl T.g_law_refused (dall6 (k := 18) (ex0 := argE 0 (valS (stS (bodyS (stS (defBody s_law) 0)) 9))) rfl (lamS_by (sc := defScope s_law) (by decide +kernel)) (fun _ _ _ _ _ => rfl) (fun A1 o1 s1 H1 E1 f1 c1 hr => pe_op (op_ownK (K := K) D_andE T.ban (rm hr) (passes_call (takes_of rfl rfl rfl rfl) fun _ _ _ _ h => h)) (pv 11) (pv 14)) (ex1 := argE 0 (valS (stS (bodyS (stS (defBody s_law) 0)) 10))) rfl (lamS_by (sc := defScope s_law) (by decide +kernel)) (fun _ _ _ _ _ => rfl) (fun A1 o1 s1 H1 E1 f1 c1 hr => pe_op (op_ownK (K := K) D_orE T.bor (rm hr) (passes_call (takes_of rfl rfl rfl rfl) fun _ _ _ _ h => h)) (pv 11) (pv 14)) (ex2 := argE 0 (valS (stS (bodyS (stS (defBody s_law) 0)) 11))) rfl (lamS_by (sc := defScope s_law) (by decide +kernel)) (fun _ _ _ _ _ => rfl) (fun A1 o1 s1 H1 E1 f1 c1 hr => pe_op (op_ownK (K := K) D_subE T.bsub (rm hr) (passes_call (takes_of rfl rfl rfl rfl) fun _ _ _ _ h => h)) (pv 11) (pv 14)) (ex3 := argE 0 (valS (stS (bodyS (stS (defBody s_law) 0)) 12))) rfl (lamS_by (sc := defScope s_law) (by decide +kernel)) (fun _ _ _ _ _ => rfl) (fun A1 o1 s1 H1 E1 f1 c1 hr => pe_cmpR (cmp_leK (K := K) D_leE T.cle (rm hr) (passes_call (takes_of rfl rfl rfl rfl) fun _ _ _ _ h => h)) (pv 11) (pv 14) (nomark _)) (ex4 := argE 0 (valS (stS (bodyS (stS (defBody s_law) 0)) 15))) rfl (lamS_by (sc := defScope s_law) (by decide +kernel)) (fun _ _ _ _ _ => rfl) (fun A1 o1 s1 H1 E1 f1 c1 hr => pe_op (op_ownK (K := K) D_addE T.ba (rm hr) (passes_call (takes_of rfl rfl rfl rfl) fun _ _ _ _ h => h)) (pv 11) (pv 13)) (ex5 := argE 0 (valS (stS (bodyS (stS (defBody s_law) 0)) 16))) rfl (lamS_by (sc := defScope s_law) (by decide +kernel)) (fun _ _ _ _ _ => rfl) (fun A1 o1 s1 H1 E1 f1 c1 hr => pe_op (op_rightD D_raddE T.br T.hbb (rm hr) (passes_call (takes_of rfl rfl rfl rfl) fun _ _ _ _ h => h)) (pv 13) (pv 11))) (pv 5)) (pe_non) (nomark _))
      (pss_one (ps_ret (pe_bl)))
      (pss_nil))))
      (pss_cons (ps_set (i := 13) c_law.nd rfl (Or.inr rfl) (pe_dn D_law_pick (rm hr) rfl T.g_law_pick (passes_call (takes_of rfl rfl rfl rfl) fun _ _ _ _ h => h) (pa_cons (pv 12) (pa_cons (pe_lst (pa_cons (pe_non) (pa_cons (pe_un un_neg (pe_int)) (pa_cons (pe_str) (pa_cons (pe_lst (pa_cons (pe_int) (pa_nil))) (pa_cons (pe_tup (pa_cons (pe_int) (pa_cons (pe_int) (pa_nil)))) (pa_cons (pe_dnewK) (pa_cons (pe_bl) (pa_cons (pe_str) (pa_cons (pe_tup (pa_nil)) (pa_cons (pv 11) (pa_nil)))))))))))) (pa_nil)))))
      (pss_cons (ps_set (i := 6) c_law.nd rfl (Or.inl rfl) (pe_lst (pa_cons (pe_lam1 DL hc rfl rfl (fun I => I.ok) (lamS_by (sc := defScope s_law) (by decide +kernel)) rfl) (pa_nil))))
      (pss_cons (ps_expr (pe_bm PySem.F.plainAttrs_list PySem.F.slot_list_append PySem.F.type_list_append mt_append (pv 6) (pa_cons (pe_lam1 DL hc rfl rfl (fun I => I.ok) (lamS_by (sc := defScope s_law) (by decide +kernel)) rfl) (pa_nil))))
      (pss_cons (ps_for (passes_of rfl) rfl (pi_list (pv 6)) (pg_name (i := 5) c_law.nd rfl (Or.inl rfl))
      (pss_one (ps_if (PW.pt (pw_and (pt_not (pt_val (pe_callB call_isi (by rfl) T.z_isinstance (by decide +kernel) (pa_cons (pv 13) (pa_cons (pe_glob (v := .ref _) rfl T.g_Stretches rfl) (pa_nil)))))) (pw_and1 (pt_cmpR op_notN (pe_actN (k := 18) FR bR c_law_refused rfl (Or.inl rfl) (fun _ => act_refused (k := 10) (rm hr) T.toTRf) (rm hr) rfl T.g_law_refused (dall6 (k := 18) (ex0 := argE 0 (valS (stS (bodyS (stS (defBody s_law) 0)) 9))) rfl (lamS_by (sc := defScope s_law) (by decide +kernel)) (fun _ _ _ _ _ => rfl) (fun A1 o1 s1 H1 E1 f1 c1 hr => pe_op (op_ownK (K := K) D_andE T.ban (rm hr) (passes_call (takes_of rfl rfl rfl rfl) fun _ _ _ _ h => h)) (pv 11) (pv 14)) (ex1 := argE 0 (valS (stS (bodyS (stS (defBody s_law) 0)) 10))) rfl (lamS_by (sc := defScope s_law) (by decide +kernel)) (fun _ _ _ _ _ => rfl) (fun A1 o1 s1 H1 E1 f1 c1 hr => pe_op (op_ownK (K := K) D_orE T.bor (rm hr) (passes_call (takes_of rfl rfl rfl rfl) fun _ _ _ _ h => h)) (pv 11) (pv 14)) (ex2 := argE 0 (valS (stS (bodyS (stS (defBody s_law) 0)) 11))) rfl (lamS_by (sc := defScope s_law) (by decide +kernel)) (fun _ _ _ _ _ => rfl) (fun A1 o1 s1 H1 E1 f1 c1 hr => pe_op (op_ownK (K := K) D_subE T.bsub (rm hr) (passes_call (takes_of rfl rfl rfl rfl) fun _ _ _ _ h => h)) (pv 11) (pv 14)) (ex3 := argE 0 (valS (stS (bodyS (stS (defBody s_law) 0)) 12))) rfl (lamS_by (sc := defScope s_law) (by decide +kernel)) (fun _ _ _ _ _ => rfl) (fun A1 o1 s1 H1 E1 f1 c1 hr => pe_cmpR (cmp_leK (K := K) D_leE T.cle (rm hr) (passes_call (takes_of rfl rfl rfl rfl) fun _ _ _ _ h => h)) (pv 11) (pv 14) (nomark _)) (ex4 := argE 0 (valS (stS (bodyS (stS (defBody s_law) 0)) 15))) rfl (lamS_by (sc := defScope s_law) (by decide +kernel)) (fun _ _ _ _ _ => rfl) (fun A1 o1 s1 H1 E1 f1 c1 hr => pe_op (op_ownK (K := K) D_addE T.ba (rm hr) (passes_call (takes_of rfl rfl rfl rfl) fun _ _ _ _ h => h)) (pv 11) (pv 13)) (ex5 := argE 0 (valS (stS (bodyS (stS (defBody s_law) 0)) 16))) rfl (lamS_by (sc := defScope s_law) (by decide +kernel)) (fun _ _ _ _ _ => rfl) (fun A1 o1 s1 H1 E1 f1 c1 hr => pe_op (op_rightD D_raddE T.br T.hbb (rm hr) (passes_call (takes_of rfl rfl rfl rfl) fun _ _ _ _ h => h)) (pv 13) (pv 11))) (pv 5)) (pe_non) (nomark _)))))
      (pss_one (ps_ret (pe_bl)))
      (pss_nil))))
      (pss_cons (ps_for (passes_of rfl) rfl (pi_list (pe_lst (pa_cons (pe_tup (pa_cons (pe_int) (pa_cons (pe_int) (pa_nil)))) (pa_cons (pe_tup (pa_cons (pe_un un_neg (pe_int)) (pa_cons (pe_int) (pa_nil)))) (pa_cons (pe_tup (pa_cons (pe_non) (pa_cons (pe_int) (pa_nil)))) (pa_cons (pe_tup (pa_cons (pe_bl) (pa_cons (pe_int) (pa_nil)))) (pa_cons (pe_tup (pa_cons (pe_int) (pa_cons (pe_bl) (pa_nil)))) (pa_cons (pe_tup (pa_cons (pe_int) (pa_cons (pe_str) (pa_nil)))) (pa_nil))))))))) (pg_tup (n := 2) rfl (pgs_cons (pg_name (i := 8) c_law.nd rfl (Or.inr rfl)) (pgs_cons (pg_name (i := 9) c_law.nd rfl (Or.inr rfl)) (pgs_nil))))
      (pss_one (ps_if (pt_cmpR op_notN (pe_act1 (k := 18) FR bR c_law_refused rfl (Or.inl rfl) (fun _ => act_refused (k := 10) (rm hr) T.toTRf) (rm hr) rfl T.g_law_refused (lamS_by (sc := defScope s_law) (by decide +kernel)) (fun _ _ _ _ _ => rfl) (fun A1 o1 s1 H1 E1 f1 c1 hr => (pe_dm H_spread (rm hr) (passes_call (takes_of rfl rfl rfl rfl) fun _ _ _ _ h => h) (pv 11) (pa_cons (pv 8) (pa_cons (pv 9) (pa_nil))))) (pe_lam1 DL hc rfl rfl (fun I => I.ok) (lamS_by (sc := defScope s_law) (by decide +kernel)) rfl)) (pe_non) (nomark _))
      (pss_one (ps_ret (pe_bl)))
      (pss_nil))))
      (pss_one (ps_if (pt_cmpR (cmp_neq D_eq T.ne (rm hr) (passes_call (takes_of rfl rfl rfl rfl) fun _ _ _ _ h => h)) (pv 11) (pe_dn D_law_of (rm hr) rfl T.g_law_of (passes_call (takes_of rfl rfl rfl rfl) fun _ _ _ _ h => h) (pa_cons (pv 2) (pa_nil))) (nomark _))
      (pss_one (ps_ret (pe_bl)))
      (pss_nil)))))))))))))))))))))))
      (pss_one (ps_ret (pe_cmpR op_eq (pe_act1 (k := 18) FR bR c_law_refused rfl (Or.inl rfl) (fun _ => act_refused (k := 10) (rm hr) T.toTRf) (rm hr) rfl T.g_law_refused (lamS_by (sc := defScope s_law) (by decide +kernel)) (fun _ _ _ _ _ => rfl) (fun A1 o1 s1 H1 E1 f1 c1 hr => (pe_sm T.sm_one D_oneE (rm hr) rfl T.g_Stretches (passes_call (takes_of rfl rfl rfl rfl) fun _ _ _ _ h => h) (pa_cons (pe_un un_neg (pe_int)) (pa_nil)))) (pe_lam1 DL hc rfl rfl (fun I => I.ok) (lamS_by (sc := defScope s_law) (by decide +kernel)) rfl)) (pe_int) (nomark _)))), ?_⟩)
  · obtain ⟨a, ns, rfl, _⟩ := h
    rfl
  · obtain ⟨a, ns, rfl, hS, hl, tb, k⟩ := h
    have S : Sh H (fun _ => False) H [] := Sh.start
    (purse 7012 => fail)
    refine g_lenL hS.sq ?_
    have hlen : (ns.map V.int).length ≤ 63 := by rw [List.length_map]; exact hl
    (purse 7012 => fail)
    refine g_loop (fun i σ H' => ∃ o1 o2 o3 o4 o5 o6 o7 o8 o9 o10 o11 o12 o13 o14 o15, σ = [some (.ref a), o1, o2, o3, o4, o5, o6, o7, o8, o9, o10, o11, o12, o13, o14, o15] ∧ SqF K H' a (ns.map V.int) ∧ Tabs (lamT K xs) H') ⟨_, _, _, _, _, _, _, _, _, _, _, _, _, _, _, rfl, hS, tb⟩ ?_ ?_
    case refine_2 =>
      rintro σ H' ⟨o1, o2, o3, o4, o5, o6, o7, o8, o9, o10, o11, o12, o13, o14, o15, rfl, hF, tb'⟩
      clear S hS tb
      have S : Sh H' (fun _ => False) H' [] := Sh.start
      (purse 7012 => fail)
      refine g_acti S soft0 tb' rfl ?_
      intro H1 E1 Q1 e1 sf1 tb1 S1 fin
      (purse 7012 => fail)
      refine ⟨-1, rfl, by decide, fun dd H3 hn c hx => fin dd _ H3 hx fun H4 c4 => ?_⟩
      (purse 7012 => fail)
      exact k _
    rintro i σ H' hi ⟨o1, o2, o3, o4, o5, o6, o7, o8, o9, o10, o11, o12, o13, o14, o15, rfl, hF, tb'⟩
    clear S hS tb
    have S : Sh H' (fun _ => False) H' [] := Sh.start
    have hS' := hF.sq
    (purse 7012 => fail)
    rename_i b _ _ _ _ _ da _ _ _ ha0 ha1 _ _ db nB sB _ hb0 hb1 hsB _ pl HL hpl SL
    refine g_lcL (fun H9 => H9 pl = some (.lst [.int da, .int db])) (fun _ h => SqL.of h) (SqL.of (by (purse 7003 => fail))) (by assumption) ?_
    intro D HD hD SD
    clear S SL
    refine g_eachQ1 (by rfl) (by (purse 7003 => fail)) ?_
    (purse 7012 => fail)
    rename_i dA _ _ _ hA0 hA1 _ _ qA _ _ _
    refine g_kel (by assumption) (by (purse 7005 => fail)) (by exact Nat.le_of_ble_eq_true rfl) ?_
    intro _ _
    refine g_eachQ1 (by rfl) (by (purse 7003 => fail)) ?_
    (purse 7012 => fail)
    rename_i dB nB2 sB2 _ hB0 hB1 hsB2 _ qB _ _ _
    refine g_kel (by assumption) (by (purse 7005 => fail)) (by exact Nat.le_of_ble_eq_true rfl) ?_
    intro HP SP
    refine g_eachQ0 (by (purse 7003 => fail)) ?_
    have SQ := Sh.cut (l' := [(qB, .tup [.int db, .int (db + dB)], true), (qA, .tup [.int da, .int (da + dA)], true), (D, .lst [.ref qA, .ref qB], true), (b, .lst [.int nB2, .int sB2], true)]) SP (by (purse 7023 => fail))
    clear SP SD
    (purse 7012 => fail)
    refine g_dnew (by assumption) ?_
    intro _ _ _ _
    (purse 7012 => fail)
    refine use_pick (by assumption) (fun _ _ => by (purse 7005 => fail)) (by assumption) (by (purse 7004 => fail)) (by exact Nat.le_of_ble_eq_true rfl) (by exact Nat.le_of_ble_eq_true rfl) (ne_obj (Sh.has_ (by assumption) (by (purse 7004 => fail))) (Sh.has_ (by assumption) (by (purse 7004 => fail))) (by simp)) ?_
    intro v n3 s3 H3 hv hs3 S3
    have key := odd_key S3 hv
    obtain ⟨dv, Ev, hpb, hpv, hsE, S3'⟩ := key
    have S4 : Sh H' (fun _ => False) H3 ((qB, .tup [.int db, .int (db + dB)], true) :: (qA, .tup [.int da, .int (da + dA)], true) :: (D, .lst [.ref qA, .ref qB], true) :: (b, .lst [.int n3, .int s3], true) :: Ev) := S3'.cut (by (purse 7023 => fail))
    clear S3'
    clear S3 hv
    (purse 7026 => fail)
    rename_i at0 n4 s4 H4 hat0 hat1 hs4 S5
    refine g_cut1 (fun σ9 H9 => ∃ (lt : Addr) (ws : List V) (ds : List PyData), σ9 = [some (.ref a), some (.int (i : Int)), some (.ref D), some (.int at0), o4, o5, o6, some (.ref lt), o8, o9, some v, o11, some (.ref b), o13, o14, o15] ∧ ws.length = 3 ∧ PvAll H9 ws ds ∧ Bad ds at0.toNat ∧
      Sh H' (fun _ => False) H9 ((lt, .lst ws, true) :: (qB, .tup [.int db, .int (db + dB)], true) :: (qA, .tup [.int da, .int (da + dA)], true) :: (D, .lst [.ref qA, .ref qB], true) :: (b, .lst [.int n4, .int s4], true) :: Ev)) ?_ ?_
    · intro nx' hnx
      clear S4
      have hA : pairB (.tuple [.int da, .int (da + dA)]) = true := by
        show (decide (0 ≤ da) && (decide (0 ≤ da + dA) && decide (da ≤ da + dA))) = true
        rw [decide_eq_true (by omega), decide_eq_true (by omega), decide_eq_true (by omega)]; rfl
      have hB : pairB (.tuple [.int db, .int (db + dB)]) = true := by
        show (decide (0 ≤ db) && (decide (0 ≤ db + dB) && decide (db ≤ db + dB))) = true
        rw [decide_eq_true (by omega), decide_eq_true (by omega), decide_eq_true (by omega)]; rfl
      have h3 : at0 = 0 ∨ at0 = 1 ∨ at0 = 2 := by omega
      rcases h3 with rfl | rfl | rfl
      · (purse 7012 => fail)
        refine g_slL (ys := []) (by assumption) (by (purse 7004 => fail)) (by rfl) ?_
        intro _ _ _ _
        (purse 7012 => fail)
        refine g_catl (by assumption) (by (purse 7004 => fail)) (by (purse 7004 => fail)) rfl ?_
        intro _ _ _ _
        (purse 7012 => fail)
        refine g_slL (ys := [.ref qA, .ref qB]) (by assumption) (by (purse 7004 => fail)) (by rfl) ?_
        intro _ _ _ _
        (purse 7012 => fail)
        refine g_catl (by assumption) (by (purse 7004 => fail)) (by (purse 7004 => fail)) rfl ?_
        intro lt HL _ SL
        (purse 7012 => fail)
        exact hnx _ _ ⟨lt, [v, .ref qA, .ref qB], [dv, .tuple [.int da, .int (da + dA)], .tuple [.int db, .int (db + dB)]], rfl, rfl, (.cons (hpv.of SL (fun e he => by simp [he])) (.cons (.tup (by (purse 7003 => fail)) (.cons (.int _) (.cons (.int _) .nil))) (.cons (.tup (by (purse 7003 => fail)) (.cons (.int _) (.cons (.int _) .nil))) .nil))), ⟨fun j d z _ => absurd z (Nat.not_lt_zero j), _, rfl, hpb⟩, SL.cut (by (purse 7023 => fail))⟩
      · (purse 7012 => fail)
        refine g_slL (ys := [.ref qA]) (by assumption) (by (purse 7004 => fail)) (by rfl) ?_
        intro _ _ _ _
        (purse 7012 => fail)
        refine g_catl (by assumption) (by (purse 7004 => fail)) (by (purse 7004 => fail)) rfl ?_
        intro _ _ _ _
        (purse 7012 => fail)
        refine g_slL (ys := [.ref qB]) (by assumption) (by (purse 7004 => fail)) (by rfl) ?_
        intro _ _ _ _
        (purse 7012 => fail)
        refine g_catl (by assumption) (by (purse 7004 => fail)) (by (purse 7004 => fail)) rfl ?_
        intro lt HL _ SL
        (purse 7012 => fail)
        exact hnx _ _ ⟨lt, [.ref qA, v, .ref qB], [.tuple [.int da, .int (da + dA)], dv, .tuple [.int db, .int (db + dB)]], rfl, rfl, (.cons (.tup (by (purse 7003 => fail)) (.cons (.int _) (.cons (.int _) .nil))) (.cons (hpv.of SL (fun e he => by simp [he])) (.cons (.tup (by (purse 7003 => fail)) (.cons (.int _) (.cons (.int _) .nil))) .nil))), ⟨fun j d z e => by match j, z, e with | 0, _, e => cases e; exact hA, _, rfl, hpb⟩, SL.cut (by (purse 7023 => fail))⟩
      · (purse 7012 => fail)
        refine g_slL (ys := [.ref qA, .ref qB]) (by assumption) (by (purse 7004 => fail)) (by rfl) ?_
        intro _ _ _ _
        (purse 7012 => fail)
        refine g_catl (by assumption) (by (purse 7004 => fail)) (by (purse 7004 => fail)) rfl ?_
        intro _ _ _ _
        (purse 7012 => fail)
        refine g_slL (ys := []) (by assumption) (by (purse 7004 => fail)) (by rfl) ?_
        intro _ _ _ _
        (purse 7012 => fail)
        refine g_catl (by assumption) (by (purse 7004 => fail)) (by (purse 7004 => fail)) rfl ?_
        intro lt HL _ SL
        (purse 7012 => fail)
        exact hnx _ _ ⟨lt, [.ref qA, .ref qB, v], [.tuple [.int da, .int (da + dA)], .tuple [.int db, .int (db + dB)], dv], rfl, rfl, (.cons (.tup (by (purse 7003 => fail)) (.cons (.int _) (.cons (.int _) .nil))) (.cons (.tup (by (purse 7003 => fail)) (.cons (.int _) (.cons (.int _) .nil))) (.cons (hpv.of SL (fun e he => by simp [he])) .nil))), ⟨fun j d z e => by match j, z, e with | 0, _, e => cases e; exact hA | 1, _, e => cases e; exact hB, _, rfl, hpb⟩, SL.cut (by (purse 7023 => fail))⟩
    rintro σ9 H9 ⟨lt, ws, ds, rfl, hw3, hpw, hbad, S9⟩
    (purse 7012 => fail)
    have hsoft : ∀ (l : List Ent), softL l = true → softL (l ++ Ev) = true := fun l h => by
      show (l ++ Ev).all _ = true
      rw [List.all_append]
      exact Bool.and_eq_true_iff.mpr ⟨h, hsE⟩
    refine g_acti S9 soft0 tb' (hsoft [(lt, .lst ws, true), (qB, .tup [.int db, .int (db + dB)], true), (qA, .tup [.int da, .int (da + dA)], true), (D, .lst [.ref qA, .ref qB], true), (b, .lst [.int n4, .int s4], true)] rfl) ?_
    intro H10 E10 Q10 e10 sf10 tb10 S10 fin
    have hF10 := (hF.along S9 soft0).extN e10
    have hpw10 := PvAll.extN e10 _ _ hpw
    clear S9 S5
    (purse 7012 => fail)
    refine ⟨lt, ws, ds, at0.toNat, rfl, by (purse 7003 => fail), hpw10, hbad, by omega, by omega, fun dd H11 hn11 c11 hx11 => fin dd _ H11 hx11 fun H12 c12 => ?_⟩
    have S12 := ((S10.ch0 c11).ch0 c12).cut (l' := (qB, .tup [.int db, .int (db + dB)], true) :: (qA, .tup [.int da, .int (da + dA)], true) :: (D, .lst [.ref qA, .ref qB], true) :: (b, .lst [.int n4, .int s4], true) :: Ev) (by (purse 7023 => fail))
    clear fin S10
    (purse 7012 => fail)
    (purse 7016 => fail)
    (purse 7012 => fail)
    refine g_acti S12 sf10 tb10 (hsoft [(qB, .tup [.int db, .int (db + dB)], true), (qA, .tup [.int da, .int (da + dA)], true), (D, .lst [.ref qA, .ref qB], true), (b, .lst [.int n4, .int s4], true)] rfl) ?_
    intro H20 E20 Q20 e20 sf20 tb20 S20 fin
    have hF20 := (hF10.along S12 sf10).extN e20
    clear S12
    suffices fin2 : ∀ (dd : Addr) (n s : Int) (H3 : Hp), Sd n s → H3 dd = some (.xd [("index", .int ((0 : Nat) : Int))]) → Sh H20 (Mu ((qB, .tup [.int db, .int (db + dB)], true) :: (qA, .tup [.int da, .int (da + dA)], true) :: (D, .lst [.ref qA, .ref qB], true) :: (b, .lst [.int n4, .int s4], true) :: Ev)) H3 ((qB, .tup [.int db, .int (db + dB)], true) :: (qA, .tup [.int da, .int (da + dA)], true) :: (D, .lst [.ref qA, .ref qB], true) :: (b, .lst [.int n, .int s], true) :: Ev) → E20 (.ref (ga K "NoStretch")) (some dd) H3 by
      (purse 7012 => fail)
      rename_i d9 n9 s9 H9 hd90 hd91 hs9 S9
      have h3 : d9 = 0 ∨ d9 = 1 ∨ d9 = 2 := by omega
      rcases h3 with rfl | rfl | rfl
      · refine g_slL (ys := [v]) (by assumption) (by (purse 7004 => fail)) (by rfl) ?_
        intro lt2 HL _ SL
        (purse 7012 => fail)
        refine ⟨lt2, _, [dv], 0, rfl, by (purse 7003 => fail), (.cons (hpv.of SL (fun e he => by simp [he])) .nil), ⟨fun j d z _ => absurd z (Nat.not_lt_zero j), _, rfl, hpb⟩, by exact Nat.le_of_ble_eq_true rfl, by exact Nat.le_of_ble_eq_true rfl, fun dd H22 hn22 c22 hx22 => ?_⟩
        exact fin2 dd _ _ H22 (by assumption) hx22 ((SL.ch0 c22).cut (by (purse 7023 => fail)))
      · refine g_slL (ys := [v, v]) (by assumption) (by (purse 7004 => fail)) (by rfl) ?_
        intro lt2 HL _ SL
        (purse 7012 => fail)
        refine ⟨lt2, _, [dv, dv], 0, rfl, by (purse 7003 => fail), (.cons (hpv.of SL (fun e he => by simp [he])) (.cons (hpv.of SL (fun e he => by simp [he])) .nil)), ⟨fun j d z _ => absurd z (Nat.not_lt_zero j), _, rfl, hpb⟩, by exact Nat.le_of_ble_eq_true rfl, by exact Nat.le_of_ble_eq_true rfl, fun dd H22 hn22 c22 hx22 => ?_⟩
        exact fin2 dd _ _ H22 (by assumption) hx22 ((SL.ch0 c22).cut (by (purse 7023 => fail)))
      · refine g_slL (ys := [v, v, v]) (by assumption) (by (purse 7004 => fail)) (by rfl) ?_
        intro lt2 HL _ SL
        (purse 7012 => fail)
        refine ⟨lt2, _, [dv, dv, dv], 0, rfl, by (purse 7003 => fail), (.cons (hpv.of SL (fun e he => by simp [he])) (.cons (hpv.of SL (fun e he => by simp [he])) (.cons (hpv.of SL (fun e he => by simp [he])) .nil))), ⟨fun j d z _ => absurd z (Nat.not_lt_zero j), _, rfl, hpb⟩, by exact Nat.le_of_ble_eq_true rfl, by exact Nat.le_of_ble_eq_true rfl, fun dd H22 hn22 c22 hx22 => ?_⟩
        exact fin2 dd _ _ H22 (by assumption) hx22 ((SL.ch0 c22).cut (by (purse 7023 => fail)))
    intro dd n5 s5 H21 hs5 hx21 S21
    refine fin dd _ H21 hx21 fun H22 c22 => ?_
    have S22 := S21.ch0 c22
    clear fin S20 S21
    (purse 7012 => fail)
    (purse 7016 => fail)
    (purse 7012 => fail)
    refine ⟨D, _, [(da, some (da + dA)), (db, some (db + dB))], rfl, by (purse 7003 => fail), .cons (by (purse 7003 => fail)) (.cons (by (purse 7003 => fail)) .nil), fun p hp => ?_, by exact Nat.le_of_ble_eq_true rfl, by exact Nat.le_of_ble_eq_true rfl, fun x HX cc hxn uX sX cnX smX lnX => ?_⟩
    · simp only [List.mem_cons, List.not_mem_nil, or_false] at hp
      rcases hp with rfl | rfl
      · exact ⟨ha0, fun h e => by cases e; show da ≤ da + dA; omega⟩
      · exact ⟨hb0, fun h e => by cases e; show db ≤ db + dB; omega⟩
    obtain ⟨dxs, ts, hxX, vsX, htX, hpX⟩ := sX
    have SU := S22.ch0 (fun b o e _ => uX b o e)
    have hF30 := hF20.along SU sf20
    have tb30 := AF.Tabs.along tb20 SU sf20
    have S30 : Sh HX (fun a => a = b) HX ((b, .lst [.int n5, .int s5], true) :: (qB, .tup [.int db, .int (db + dB)], false) :: (qA, .tup [.int da, .int (da + dA)], false) :: (D, .lst [.ref qA, .ref qB], false) :: frz Ev) := Sh.keep (l1 := [(qB, .tup [.int db, .int (db + dB)], true), (qA, .tup [.int da, .int (da + dA)], true), (D, .lst [.ref qA, .ref qB], true)]) SU
    clear S22 SU
    (purse 7012 => fail)
    refine g_dnew (by assumption) ?_
    intro _ _ _ _
    (purse 7012 => fail)
    refine use_pick (by assumption) (fun _ _ => by (purse 7005 => fail)) (by assumption) (by (purse 7004 => fail)) (by exact Nat.le_of_ble_eq_true rfl) (by exact Nat.le_of_ble_eq_true rfl) (ne_obj (Sh.has_ (by assumption) (by (purse 7004 => fail))) (Sh.has_ (by assumption) (by (purse 7004 => fail))) (by simp)) ?_
    intro vw n6 s6 H31 hvw hs6 S31
    have key := wrong_key S31 hvw
    obtain ⟨dw, Ew, _, hpw6, hsEw, S31'⟩ := key
    have soft30 : Soft HX (fun a => a = b) := fun c o hc e => by
      have e : c = b := e
      rw [e, S30.has_ .here] at hc
      cases hc
      rfl
    have lm30 : LstM HX (fun a => a = b) := fun c o e hc => by
      have hc : c = b := hc
      rw [hc, S30.has_ .here] at e
      exact ⟨_, (Option.some.inj e).symm⟩
    have ss31 : Ss (ga K "Stretches") H31 x cc := Ss.upT (UpT.of S31' lm30) ⟨dxs, ts, hxX, vsX, htX, hpX⟩
    have hF31 := hF30.along S31' soft30
    have tb31 := AF.Tabs.along tb30 S31' soft30
    have S32 : Sh H31 (fun a => a = b) H31 ((b, .lst [.int n6, .int s6], true) :: (qB, .tup [.int db, .int (db + dB)], false) :: (qA, .tup [.int da, .int (da + dA)], false) :: (D, .lst [.ref qA, .ref qB], false) :: frz Ew) :=
      Sh.keep (l1 := []) (S31'.cut (l' := (b, .lst [.int n6, .int s6], true) :: (qB, .tup [.int db, .int (db + dB)], false) :: (qA, .tup [.int da, .int (da + dA)], false) :: (D, .lst [.ref qA, .ref qB], false) :: Ew) (.cons_cons _ (.cons_cons _ (.cons_cons _ (.cons_cons _ (List.sublist_append_right _ _))))))
    have lm32 : LstM H31 (fun a => a = b) := fun c o e hc => by
      have hc : c = b := hc
      rw [hc, S32.has_ .here] at e
      exact ⟨_, (Option.some.inj e).symm⟩
    have hlE : lstL (frz Ew) = true := lstL_frz hsEw
    have hpE : PvE (frz Ew) vw dw := hpw6.frz
    clear S31 hvw S31' S30 hF30 tb30 hF20 tb20 hF10 hxX htX hpX soft30 lm30 hpw6
    (purse 7012 => fail)
    refine g_lamS S32 lm32 tb31 hF31 ss31 (by (purse 7027 => fail)) ?_
    intro f1 c1 H41 S41 lm41 tb41 hF41 ss41
    clear S32
    (purse 7012 => fail)
    refine g_bml (by (purse 7003 => fail)) ?_
    (purse 7012 => fail)
    refine g_lamS (by assumption) lm41 tb41 hF41 ss41 (by (purse 7027 => fail)) ?_
    intro f2 c2 H51 S51 lm51 tb51 hF51 ss51
    (purse 7012 => fail)
    refine g_apd (ys := [.ref f1, .ref f2]) S51 (by (purse 7005 => fail)) rfl (by exact Nat.le_of_ble_eq_true rfl) ?_
    intro _ _
    (purse 7012 => fail)
    refine g_bml (by (purse 7003 => fail)) ?_
    (purse 7012 => fail)
    refine g_lamS (by assumption) lm51 tb51 hF51 ss51 (by (purse 7027 => fail)) ?_
    intro f3 c3 H61 S61 lm61 tb61 hF61 ss61
    (purse 7012 => fail)
    refine g_apd (ys := [.ref f1, .ref f2, .ref f3]) S61 (by (purse 7005 => fail)) rfl (by exact Nat.le_of_ble_eq_true rfl) ?_
    intro _ _
    (purse 7012 => fail)
    refine g_bml (by (purse 7003 => fail)) ?_
    (purse 7012 => fail)
    refine g_lamS (by assumption) lm61 tb61 hF61 ss61 (by (purse 7027 => fail)) ?_
    intro f4 c4 H71 S71 lm71 tb71 hF71 ss71
    (purse 7012 => fail)
    refine g_apd (ys := [.ref f1, .ref f2, .ref f3, .ref f4]) S71 (by (purse 7005 => fail)) rfl (by exact Nat.le_of_ble_eq_true rfl) ?_
    intro _ _
    (purse 7012 => fail)
    refine g_ls (by (purse 7003 => fail)) ?_
    rename_i H80 S80
    have ss80 := Ss.upT (UpT.of S80 lm71) ss71
    clear S71 S61 S51 S41 ss71 ss61 ss51 ss41 ss31 lm61 lm51 lm41 tb61 tb51 tb41 hF61 hF51 hF41 hF31 tb31 lm32
    refine g_eachl1n (by (purse 7003 => fail)) ?_
    (purse 7012 => fail)
    refine g_actM (.head _) (by (purse 7003 => fail)) (by (purse 7003 => fail)) (fun E80 Q80 fin => ?_)
    (purse 7012 => fail)
    have hp80 : Pv H80 vw dw := hpE.of S80 (fun e he => by simp [he])
    obtain ⟨dx80, t80, hx80, ht80⟩ := ss80
    refine g_own hx80 hp80.kd (T.beT .BitAnd (by simp) _ (tyN_mem dw)) ⟨x, dx80, t80, vw, dw, rfl, hx80, hp80, fun dd H3 hn c3 hx3 => fin dd _ H3 hx3 fun H81 c4 => ?_⟩
    have S81 := (S80.ch0 c3).ch0 c4
    have ss81 : Ss (ga K "Stretches") H81 x cc := Ss.up ((Up.of c3).trans (Up.of c4)) ⟨dx80, t80, hx80, ht80⟩
    clear fin S80 hp80 hx80 ht80
    (purse 7012 => fail)
    refine ⟨rfl, ?_⟩
    (purse 7012 => fail)
    (purse 7016 => fail)
    (purse 7012 => fail)
    refine g_eachl1n (by (purse 7003 => fail)) ?_
    (purse 7012 => fail)
    refine g_actM (.tail _ (.head _)) (by (purse 7003 => fail)) (by (purse 7003 => fail)) (fun E81 Q81 fin => ?_)
    (purse 7012 => fail)
    have hp81 : Pv H81 vw dw := hpE.of S81 (fun e he => by simp [he])
    obtain ⟨dx81, t81, hx81, ht81⟩ := ss81
    refine g_own hx81 hp81.kd (T.beT .BitOr (by simp) _ (tyN_mem dw)) ⟨x, dx81, t81, vw, dw, rfl, hx81, hp81, fun dd H3 hn c3 hx3 => fin dd _ H3 hx3 fun H82 c4 => ?_⟩
    have S82 := (S81.ch0 c3).ch0 c4
    have ss82 : Ss (ga K "Stretches") H82 x cc := Ss.up ((Up.of c3).trans (Up.of c4)) ⟨dx81, t81, hx81, ht81⟩
    clear fin S81 hp81 hx81 ht81
    (purse 7012 => fail)
    refine ⟨rfl, ?_⟩
    (purse 7012 => fail)
    (purse 7016 => fail)
    (purse 7012 => fail)
    refine g_eachl1n (by (purse 7003 => fail)) ?_
    (purse 7012 => fail)
    refine g_actM (.tail _ (.tail _ (.head _))) (by (purse 7003 => fail)) (by (purse 7003 => fail)) (fun E82 Q82 fin => ?_)
    (purse 7012 => fail)
    have hp82 : Pv H82 vw dw := hpE.of S82 (fun e he => by simp [he])
    obtain ⟨dx82, t82, hx82, ht82⟩ := ss82
    refine g_own hx82 hp82.kd (T.beT .Sub (by simp) _ (tyN_mem dw)) ⟨x, dx82, t82, vw, dw, rfl, hx82, hp82, fun dd H3 hn c3 hx3 => fin dd _ H3 hx3 fun H83 c4 => ?_⟩
    have S83 := (S82.ch0 c3).ch0 c4
    have ss83 : Ss (ga K "Stretches") H83 x cc := Ss.up ((Up.of c3).trans (Up.of c4)) ⟨dx82, t82, hx82, ht82⟩
    clear fin S82 hp82 hx82 ht82
    (purse 7012 => fail)
    refine ⟨rfl, ?_⟩
    (purse 7012 => fail)
    (purse 7016 => fail)
    (purse 7012 => fail)
    refine g_eachl1n (by (purse 7003 => fail)) ?_
    (purse 7012 => fail)
    refine g_actM (.tail _ (.tail _ (.tail _ (.head _)))) (by (purse 7003 => fail)) (by (purse 7003 => fail)) (fun E83 Q83 fin => ?_)
    (purse 7012 => fail)
    have hp83 : Pv H83 vw dw := hpE.of S83 (fun e he => by simp [he])
    obtain ⟨dx83, t83, hx83, ht83⟩ := ss83
    refine g_cmp hx83 hp83.kd (T.nfT _ (tyN_mem dw)) ⟨x, dx83, t83, vw, dw, rfl, hx83, hp83, fun dd H3 hn c3 hx3 => fin dd _ H3 hx3 fun H84 c4 => ?_⟩
    have S84 := (S83.ch0 c3).ch0 c4
    have ss84 : Ss (ga K "Stretches") H84 x cc := Ss.up ((Up.of c3).trans (Up.of c4)) ⟨dx83, t83, hx83, ht83⟩
    clear fin S83 hp83 hx83 ht83
    (purse 7012 => fail)
    refine ⟨rfl, ?_⟩
    (purse 7012 => fail)
    (purse 7016 => fail)
    (purse 7012 => fail)
    refine g_eachl0 (by (purse 7003 => fail)) ?_
    have hF84 := hF71.along S84 lm71.soft
    have tb84 := AF.Tabs.along tb71 S84 lm71.soft
    have S85 : Sh H84 (fun a => a = b) H84 [(b, .lst [.int n6, .int s6], true), (qB, .tup [.int db, .int (db + dB)], false), (qA, .tup [.int da, .int (da + dA)], false), (D, .lst [.ref qA, .ref qB], false)] :=
      Sh.keep (l1 := []) (l2 := [(qB, .tup [.int db, .int (db + dB)], false), (qA, .tup [.int da, .int (da + dA)], false), (D, .lst [.ref qA, .ref qB], false)]) (S84.cut (by (purse 7023 => fail)))
    have lm84 : LstM H84 (fun a => a = b) := fun c o e hc => by
      have hc : c = b := hc
      rw [hc, S85.has_ .here] at e
      exact ⟨_, (Option.some.inj e).symm⟩
    clear S84 hF71 tb71 lm71 hpE hlE
    (purse 7012 => fail)
    refine g_dnew (by assumption) ?_
    intro _ _ _ _
    (purse 7012 => fail)
    refine use_pick (by assumption) (fun _ _ => by (purse 7005 => fail)) (by assumption) (by (purse 7004 => fail)) (by exact Nat.le_of_ble_eq_true rfl) (by exact Nat.le_of_ble_eq_true rfl) (ne_obj (Sh.has_ (by assumption) (by (purse 7004 => fail))) (Sh.has_ (by assumption) (by (purse 7004 => fail))) (by simp)) ?_
    intro vt n7 s7 H91 hvt hs7 S91
    have key := step_key (x0 := x) S91 hvt
    obtain ⟨Et, hsEt, S91', hcase⟩ := key
    have ss91 := Ss.upT (UpT.of S91' lm84) ss84
    have hF91 := hF84.along S91' lm84.soft
    have tb91 := AF.Tabs.along tb84 S91' lm84.soft
    have S92 : Sh H91 (fun a => a = b) H91 ((b, .lst [.int n7, .int s7], true) :: (qB, .tup [.int db, .int (db + dB)], false) :: (qA, .tup [.int da, .int (da + dA)], false) :: (D, .lst [.ref qA, .ref qB], false) :: frz Et) :=
      Sh.keep (l1 := []) (l2 := (qB, .tup [.int db, .int (db + dB)], false) :: (qA, .tup [.int da, .int (da + dA)], false) :: (D, .lst [.ref qA, .ref qB], false) :: Et) S91'
    have lm92 : LstM H91 (fun a => a = b) := fun c o e hc => by
      have hc : c = b := hc
      rw [hc, S92.has_ .here] at e
      exact ⟨_, (Option.some.inj e).symm⟩
    have hlE : lstL (frz Et) = true := lstL_frz hsEt
    clear S91 S91' S85 ss84 hF84 tb84 lm84 hvt
    (purse 7012 => fail)
    refine g_lamS S92 lm92 tb91 hF91 ss91 (by (purse 7027 => fail)) ?_
    intro f5 c5 H101 S101 lm101 tb101 hF101 ss101
    clear S92 lm92 tb91 hF91 ss91
    (purse 7012 => fail)
    refine g_bml (by (purse 7003 => fail)) ?_
    (purse 7012 => fail)
    refine g_lamS (by assumption) lm101 tb101 hF101 ss101 (by (purse 7027 => fail)) ?_
    intro f6 c6 H111 S111 lm111 tb111 hF111 ss111
    (purse 7012 => fail)
    refine g_apd (ys := [.ref f5, .ref f6]) S111 (by (purse 7005 => fail)) rfl (by exact Nat.le_of_ble_eq_true rfl) ?_
    intro _ _
    (purse 7012 => fail)
    refine g_ls (by (purse 7003 => fail)) ?_
    rename_i H120 S120
    have ss120 := Ss.upT (UpT.of S120 lm111) ss111
    clear S111 S101 ss111 ss101 lm101 tb101 hF101
    refine g_eachl1n (by (purse 7003 => fail)) ?_
    refine g_cutS (fun nx' hnx => ?_) (fun H121 c121 => ?_)
    · rcases hcase with rfl | ⟨d, hpd, hpt⟩
      · obtain ⟨dx120, t120, hx120, ht120⟩ := ss120
        (purse 7012 => fail)
        refine g_isi (.own _) (.base (.ins hx120 T.ic.cl T.ic.ha T.ic.hn T.ic.htk T.ic.hm)) T.ic.me ?_
        (purse 7012 => fail)
        (purse 7016 => fail)
        (purse 7012 => fail)
        (purse 7016 => fail)
        (purse 7012 => fail)
        exact hnx _ ch_rfl
      · have hp120 : Pv H120 vt d := hpt.frz.of S120 (fun e he => by simp [he])
        obtain ⟨dx120, t120, hx120, ht120⟩ := ss120
        (purse 7012 => fail)
        refine g_isi (.own _) hp120.ty (T.kSt _ (tyN_mem d)) ?_
        (purse 7012 => fail)
        (purse 7015 => fail)
        (purse 7012 => fail)
        refine g_actM (.tail _ (.tail _ (.tail _ (.tail _ (.head _))))) (by (purse 7003 => fail)) (by (purse 7003 => fail)) (fun E120 Q120 fin => ?_)
        (purse 7012 => fail)
        refine g_own hx120 hp120.kd (T.beT .Add (by simp) _ (tyN_mem d)) ⟨x, dx120, t120, vt, d, rfl, hx120, hp120, hpd, fun dd H3 hn c3 hx3 => fin dd _ H3 hx3 fun H4 c4 => ?_⟩
        refine ⟨rfl, ?_⟩
        (purse 7012 => fail)
        (purse 7016 => fail)
        (purse 7012 => fail)
        exact hnx _ (ch_tr c3 c4)
    have S121 := S120.ch0 c121
    have ss121 : Ss (ga K "Stretches") H121 x cc := Ss.up (Up.of c121) ss120
    clear S120 ss120 c121
    refine g_eachl1n (by (purse 7003 => fail)) ?_
    refine g_cutS (fun nx' hnx => ?_) (fun H122 c122 => ?_)
    · rcases hcase with rfl | ⟨d, hpd, hpt⟩
      · obtain ⟨dx121, t121, hx121, ht121⟩ := ss121
        (purse 7012 => fail)
        refine g_isi (.own _) (.base (.ins hx121 T.ic.cl T.ic.ha T.ic.hn T.ic.htk T.ic.hm)) T.ic.me ?_
        (purse 7012 => fail)
        (purse 7016 => fail)
        (purse 7012 => fail)
        (purse 7016 => fail)
        (purse 7012 => fail)
        exact hnx _ ch_rfl
      · have hp121 : Pv H121 vt d := hpt.frz.of S121 (fun e he => by simp [he])
        obtain ⟨dx121, t121, hx121, ht121⟩ := ss121
        (purse 7012 => fail)
        refine g_isi (.own _) hp121.ty (T.kSt _ (tyN_mem d)) ?_
        (purse 7012 => fail)
        (purse 7015 => fail)
        (purse 7012 => fail)
        refine g_actM (.tail _ (.tail _ (.tail _ (.tail _ (.tail _ (.head _)))))) (by (purse 7003 => fail)) (by (purse 7003 => fail)) (fun E121 Q121 fin => ?_)
        (purse 7012 => fail)
        refine g_rightD hx121 hp121 ⟨x, dx121, t121, vt, d, rfl, hx121, hp121, hpd, fun dd H3 hn c3 hx3 => fin dd _ H3 hx3 fun H4 c4 => ?_⟩
        refine ⟨rfl, ?_⟩
        (purse 7012 => fail)
        (purse 7016 => fail)
        (purse 7012 => fail)
        exact hnx _ (ch_tr c3 c4)
    have S122 := S121.ch0 c122
    have ss122 : Ss (ga K "Stretches") H122 x cc := Ss.up (Up.of c122) ss121
    clear S121 ss121 c122
    refine g_eachl0 (by (purse 7003 => fail)) ?_
    have hF130 := hF111.along S122 lm111.soft
    have tb130 := AF.Tabs.along tb111 S122 lm111.soft
    have S130 : Sh H122 (fun a => a = b) H122 [(b, .lst [.int n7, .int s7], true), (qB, .tup [.int db, .int (db + dB)], false), (qA, .tup [.int da, .int (da + dA)], false), (D, .lst [.ref qA, .ref qB], false)] :=
      Sh.keep (l1 := []) (l2 := [(qB, .tup [.int db, .int (db + dB)], false), (qA, .tup [.int da, .int (da + dA)], false), (D, .lst [.ref qA, .ref qB], false)]) (S122.cut (by (purse 7023 => fail)))
    have lm130 : LstM H122 (fun a => a = b) := fun c o e hc => by
      have hc : c = b := hc
      rw [hc, S130.has_ .here] at e
      exact ⟨_, (Option.some.inj e).symm⟩
    clear S122 hF111 tb111 lm111 hlE
    (purse 7012 => fail)
    rename_i q1 _ _ _ q2 _ _ _ q3 _ _ _ q4 _ _ _ q5 _ _ _ q6 _ _ _ qL H140 _ S140
    have hF140 := hF130.along S140 lm130.soft
    have tb140 := AF.Tabs.along tb130 S140 lm130.soft
    have ss140 := Ss.upT (UpT.of S140 lm130) ss122
    have S150 : Sh H140 (fun a => a = b) H140 [(b, .lst [.int n7, .int s7], true), (qL, .lst [.ref q1, .ref q2, .ref q3, .ref q4, .ref q5, .ref q6], false), (q6, .tup [.int 1, .str "2"], false), (q5, .tup [.int 1, .bl true], false), (q4, .tup [.bl true, .int 3], false), (q3, .tup [.non, .int 3], false), (q2, .tup [.int (-1), .int 3], false), (q1, .tup [.int 2, .int 1], false), (qB, .tup [.int db, .int (db + dB)], false), (qA, .tup [.int da, .int (da + dA)], false), (D, .lst [.ref qA, .ref qB], false)] :=
      Sh.keep (l1 := [(qL, .lst [.ref q1, .ref q2, .ref q3, .ref q4, .ref q5, .ref q6], true), (q6, .tup [.int 1, .str "2"], true), (q5, .tup [.int 1, .bl true], true), (q4, .tup [.bl true, .int 3], true), (q3, .tup [.non, .int 3], true), (q2, .tup [.int (-1), .int 3], true), (q1, .tup [.int 2, .int 1], true)]) (l2 := [(qB, .tup [.int db, .int (db + dB)], false), (qA, .tup [.int da, .int (da + dA)], false), (D, .lst [.ref qA, .ref qB], false)]) S140
    have lm150 : LstM H140 (fun a => a = b) := fun c o e hc => by
      have hc : c = b := hc
      rw [hc, S150.has_ .here] at e
      exact ⟨_, (Option.some.inj e).symm⟩
    clear S140 hF130 tb130 lm130 ss122 S130
    refine g_ls (by (purse 7003 => fail)) ?_
    refine g_eachl1 (by (purse 7003 => fail)) ?_
    refine g_gt2 (by (purse 7003 => fail)) ?_
    (purse 7012 => fail)
    refine g_actiS S150 lm150 tb140 hF140 ss140 (by (purse 7027 => fail)) ?_
    intro H151 E151 Q151 lm151 tb151 hF151 ss151 S151 fin
    clear S150 lm150 tb140 hF140 ss140
    (purse 7012 => fail)
    obtain ⟨dx151, t151, hx151, ht151⟩ := ss151
    refine g_kmeth hx151 rfl ?_
    (purse 7012 => fail)
    refine ⟨x, dx151, t151, _, _, .int 2, .int 1, rfl, hx151, (.int _), (.int _), by decide +kernel, fun dd H3 hn c3 hx3 => fin dd _ H3 hx3 fun H152 c4 => ?_⟩
    have S152 := (S151.ch0 c3).ch0 c4
    have ss152 : Ss (ga K "Stretches") H152 x cc := Ss.up ((Up.of c3).trans (Up.of c4)) ⟨dx151, t151, hx151, ht151⟩
    have hF152 := hF151
    clear fin S151 hx151 ht151
    refine ⟨rfl, ?_⟩
    (purse 7012 => fail)
    (purse 7016 => fail)
    (purse 7012 => fail)
    have hFb152 := hF151.along S152 lm151.soft
    have tbb152 := AF.Tabs.along tb151 S152 lm151.soft
    have Sb152 := S152.again
    have lmb152 := LstM.mu S152 (by (purse 7027 => fail))
    clear S152 hF152 hF151 tb151 lm151
    refine g_eachl1 (by (purse 7003 => fail)) ?_
    refine g_gt2 (by (purse 7003 => fail)) ?_
    (purse 7012 => fail)
    refine g_actiS Sb152 lmb152 tbb152 hFb152 ss152 (by (purse 7027 => fail)) ?_
    intro H153 E153 Q153 lm153 tb153 hF153 ss153 S153 fin
    clear Sb152 lmb152 tbb152 hFb152 ss152
    (purse 7012 => fail)
    obtain ⟨dx153, t153, hx153, ht153⟩ := ss153
    refine g_kmeth hx153 rfl ?_
    (purse 7012 => fail)
    refine ⟨x, dx153, t153, _, _, .int (-1), .int 3, rfl, hx153, (.int _), (.int _), by decide +kernel, fun dd H3 hn c3 hx3 => fin dd _ H3 hx3 fun H154 c4 => ?_⟩
    have S154 := (S153.ch0 c3).ch0 c4
    have ss154 : Ss (ga K "Stretches") H154 x cc := Ss.up ((Up.of c3).trans (Up.of c4)) ⟨dx153, t153, hx153, ht153⟩
    have hF154 := hF153
    clear fin S153 hx153 ht153
    refine ⟨rfl, ?_⟩
    (purse 7012 => fail)
    (purse 7016 => fail)
    (purse 7012 => fail)
    have hFb154 := hF153.along S154 lm153.soft
    have tbb154 := AF.Tabs.along tb153 S154 lm153.soft
    have Sb154 := S154.again
    have lmb154 := LstM.mu S154 (by (purse 7027 => fail))
    clear S154 hF154 hF153 tb153 lm153
    refine g_eachl1 (by (purse 7003 => fail)) ?_
    refine g_gt2 (by (purse 7003 => fail)) ?_
    (purse 7012 => fail)
    refine g_actiS Sb154 lmb154 tbb154 hFb154 ss154 (by (purse 7027 => fail)) ?_
    intro H155 E155 Q155 lm155 tb155 hF155 ss155 S155 fin
    clear Sb154 lmb154 tbb154 hFb154 ss154
    (purse 7012 => fail)
    obtain ⟨dx155, t155, hx155, ht155⟩ := ss155
    refine g_kmeth hx155 rfl ?_
    (purse 7012 => fail)
    refine ⟨x, dx155, t155, _, _, .none, .int 3, rfl, hx155, .non, (.int _), by decide +kernel, fun dd H3 hn c3 hx3 => fin dd _ H3 hx3 fun H156 c4 => ?_⟩
    have S156 := (S155.ch0 c3).ch0 c4
    have ss156 : Ss (ga K "Stretches") H156 x cc := Ss.up ((Up.of c3).trans (Up.of c4)) ⟨dx155, t155, hx155, ht155⟩
    have hF156 := hF155
    clear fin S155 hx155 ht155
    refine ⟨rfl, ?_⟩
    (purse 7012 => fail)
    (purse 7016 => fail)
    (purse 7012 => fail)
    have hFb156 := hF155.along S156 lm155.soft
    have tbb156 := AF.Tabs.along tb155 S156 lm155.soft
    have Sb156 := S156.again
    have lmb156 := LstM.mu S156 (by (purse 7027 => fail))
    clear S156 hF156 hF155 tb155 lm155
    refine g_eachl1 (by (purse 7003 => fail)) ?_
    refine g_gt2 (by (purse 7003 => fail)) ?_
    (purse 7012 => fail)
    refine g_actiS Sb156 lmb156 tbb156 hFb156 ss156 (by (purse 7027 => fail)) ?_
    intro H157 E157 Q157 lm157 tb157 hF157 ss157 S157 fin
    clear Sb156 lmb156 tbb156 hFb156 ss156
    (purse 7012 => fail)
    obtain ⟨dx157, t157, hx157, ht157⟩ := ss157
    refine g_kmeth hx157 rfl ?_
    (purse 7012 => fail)
    refine ⟨x, dx157, t157, _, _, .bool true, .int 3, rfl, hx157, (.bl _), (.int _), by decide +kernel, fun dd H3 hn c3 hx3 => fin dd _ H3 hx3 fun H158 c4 => ?_⟩
    have S158 := (S157.ch0 c3).ch0 c4
    have ss158 : Ss (ga K "Stretches") H158 x cc := Ss.up ((Up.of c3).trans (Up.of c4)) ⟨dx157, t157, hx157, ht157⟩
    have hF158 := hF157
    clear fin S157 hx157 ht157
    refine ⟨rfl, ?_⟩
    (purse 7012 => fail)
    (purse 7016 => fail)
    (purse 7012 => fail)
    have hFb158 := hF157.along S158 lm157.soft
    have tbb158 := AF.Tabs.along tb157 S158 lm157.soft
    have Sb158 := S158.again
    have lmb158 := LstM.mu S158 (by (purse 7027 => fail))
    clear S158 hF158 hF157 tb157 lm157
    refine g_eachl1 (by (purse 7003 => fail)) ?_
    refine g_gt2 (by (purse 7003 => fail)) ?_
    (purse 7012 => fail)
    refine g_actiS Sb158 lmb158 tbb158 hFb158 ss158 (by (purse 7027 => fail)) ?_
    intro H159 E159 Q159 lm159 tb159 hF159 ss159 S159 fin
    clear Sb158 lmb158 tbb158 hFb158 ss158
    (purse 7012 => fail)
    obtain ⟨dx159, t159, hx159, ht159⟩ := ss159
    refine g_kmeth hx159 rfl ?_
    (purse 7012 => fail)
    refine ⟨x, dx159, t159, _, _, .int 1, .bool true, rfl, hx159, (.int _), (.bl _), by decide +kernel, fun dd H3 hn c3 hx3 => fin dd _ H3 hx3 fun H160 c4 => ?_⟩
    have S160 := (S159.ch0 c3).ch0 c4
    have ss160 : Ss (ga K "Stretches") H160 x cc := Ss.up ((Up.of c3).trans (Up.of c4)) ⟨dx159, t159, hx159, ht159⟩
    have hF160 := hF159
    clear fin S159 hx159 ht159
    refine ⟨rfl, ?_⟩
    (purse 7012 => fail)
    (purse 7016 => fail)
    (purse 7012 => fail)
    have hFb160 := hF159.along S160 lm159.soft
    have tbb160 := AF.Tabs.along tb159 S160 lm159.soft
    have Sb160 := S160.again
    have lmb160 := LstM.mu S160 (by (purse 7027 => fail))
    clear S160 hF160 hF159 tb159 lm159
    refine g_eachl1 (by (purse 7003 => fail)) ?_
    refine g_gt2 (by (purse 7003 => fail)) ?_
    (purse 7012 => fail)
    refine g_actiS Sb160 lmb160 tbb160 hFb160 ss160 (by (purse 7027 => fail)) ?_
    intro H161 E161 Q161 lm161 tb161 hF161 ss161 S161 fin
    clear Sb160 lmb160 tbb160 hFb160 ss160
    (purse 7012 => fail)
    obtain ⟨dx161, t161, hx161, ht161⟩ := ss161
    refine g_kmeth hx161 rfl ?_
    (purse 7012 => fail)
    refine ⟨x, dx161, t161, _, _, .int 1, .str "2", rfl, hx161, (.int _), (.str _), by decide +kernel, fun dd H3 hn c3 hx3 => fin dd _ H3 hx3 fun H162 c4 => ?_⟩
    have S162 := (S161.ch0 c3).ch0 c4
    have ss162 : Ss (ga K "Stretches") H162 x cc := Ss.up ((Up.of c3).trans (Up.of c4)) ⟨dx161, t161, hx161, ht161⟩
    have hF162 := hF161
    clear fin S161 hx161 ht161
    refine ⟨rfl, ?_⟩
    (purse 7012 => fail)
    (purse 7016 => fail)
    (purse 7012 => fail)
    have hFb162 := hF161.along S162 lm161.soft
    have tbb162 := AF.Tabs.along tb161 S162 lm161.soft
    have Sb162 := S162.again
    have lmb162 := LstM.mu S162 (by (purse 7027 => fail))
    clear S162 hF162 hF161 tb161 lm161
    refine g_eachl0 (by (purse 7003 => fail)) ?_
    (purse 7012 => fail)
    refine ⟨D, _, [(da, some (da + dA)), (db, some (db + dB))], rfl, by (purse 7003 => fail), .cons (by (purse 7003 => fail)) (.cons (by (purse 7003 => fail)) .nil), fun p hp => ?_, by exact Nat.le_of_ble_eq_true rfl, by exact Nat.le_of_ble_eq_true rfl, fun y HY cy hyn uY sY cnY smY lnY => ?_⟩
    · simp only [List.mem_cons, List.not_mem_nil, or_false] at hp
      rcases hp with rfl | rfl
      · exact ⟨ha0, fun h e => by cases e; show da ≤ da + dA; omega⟩
      · exact ⟨hb0, fun h e => by cases e; show db ≤ db + dB; omega⟩
    have SY := Sb162.ch0 (fun b o e _ => uY b o e)
    have hFY := hFb162.along SY lmb162.soft
    have tbY := AF.Tabs.along tbb162 SY lmb162.soft
    obtain ⟨dxX, tX, hxX, htX⟩ := Ss.up uY ss162
    obtain ⟨dyY, tY, hyY, htY⟩ := sY
    refine g_neq hxX (Kd.ins hyY) T.nfC ⟨x, y, cc, cy, rfl, ⟨dxX, tX, hxX, htX⟩, ⟨dyY, tY, hyY, htY⟩, ?_⟩
    rw [decide_eq_true (ST.canon_uniq cnX cnY fun z => (smX z).trans (smY z).symm)]
    refine g_knot ?_
    (purse 7012 => fail)
    (purse 7016 => fail)
    (purse 7012 => fail)
    exact ⟨_, _, _, _, _, _, _, _, _, _, _, _, _, _, _, rfl, hFY, tbY⟩
end

end K1
namespace K1
open PySem PySem.Spec PyProof.Rows L2 AF
set_option maxHeartbeats 0
/-! the end -/
section
open He
def lams : List Str := ["law"]
def hdefs : List DA := [⟨fun K => ga K "law", "law", "law", s_law, [], []⟩,
  ⟨fun K => ga K "_law_source", "_law_source", "_law_source", s_law_source, [], []⟩,
  ⟨fun K => ga K "_law_draw", "_law_draw", "_law_draw", s_law_draw, [], []⟩,
  ⟨fun K => ga K "_law_pick", "_law_pick", "_law_pick", s_law_pick, [], []⟩,
  ⟨fun K => ga K "_law_refused", "_law_refused", "_law_refused", s_law_refused, [], []⟩,
  ⟨fun K => ga K "_law_of", "_law_of", "_law_of", s_law_of, [], []⟩,
  ⟨fun K => ga K "is_whole", "is_whole", "is_whole", s_is_whole, [], []⟩,
  ⟨fun K => ga K "is_count", "is_count", "is_count", s_is_count, [], []⟩,
  ⟨fun K => ga K "is_pair", "is_pair", "is_pair", s_is_pair, [], []⟩,
  ⟨fun K => ga K "kept_of", "kept_of", "kept_of", s_kept_of, [], []⟩,
  ⟨fun K => ga K "merged", "merged", "merged", s_merged, [], []⟩,
  ⟨fun K => ga K "starts_anew", "starts_anew", "starts_anew", s_starts_anew, [], []⟩,
  ⟨fun K => ga K "common", "common", "common", s_common, [], []⟩,
  ⟨fun K => ga K "gaps", "gaps", "gaps", s_gaps, [], []⟩,
  ⟨fun K => ga K "earlier_end", "earlier_end", "earlier_end", s_earlier_end, [], []⟩,
  ⟨fun K => ga K "sum_of_ends", "sum_of_ends", "sum_of_ends", s_sum_of_ends, [], []⟩,
  ⟨fun K => ma K (ga K "Stretches") "__init__", "__init__", "Stretches.__init__", s_Stretches___init__, [], []⟩,
  ⟨fun K => ma K (ga K "Stretches") "__and__", "__and__", "Stretches.__and__", s_Stretches___and__, [], []⟩,
  ⟨fun K => ma K (ga K "Stretches") "__or__", "__or__", "Stretches.__or__", s_Stretches___or__, [], []⟩,
  ⟨fun K => ma K (ga K "Stretches") "__sub__", "__sub__", "Stretches.__sub__", s_Stretches___sub__, [], []⟩,
  ⟨fun K => ma K (ga K "Stretches") "__le__", "__le__", "Stretches.__le__", s_Stretches___le__, [], []⟩,
  ⟨fun K => ma K (ga K "Stretches") "__add__", "__add__", "Stretches.__add__", s_Stretches___add__, [], []⟩,
  ⟨fun K => ma K (ga K "Stretches") "__radd__", "__radd__", "Stretches.__radd__", s_Stretches___radd__, [], []⟩,
  ⟨fun K => ma K (ga K "Stretches") "__eq__", "__eq__", "Stretches.__eq__", s_Stretches___eq__, [], []⟩,
  ⟨fun K => ma K (ga K "Stretches") "spread", "spread", "Stretches.spread", s_Stretches_spread, [], []⟩,
  ⟨fun K => He5.wf K (ga K "Stretches") "staticmethod" "one", "one", "Stretches.one", s_Stretches_one, [], []⟩,
  ⟨fun K => ma K (ga K "NoStretch") "__init__", "__init__", "NoStretch.__init__", s_NoStretch___init__, [], []⟩]
def hfacts (K : PySem.W.Frag) : List Bool := [(Fa.glo "Stretches").ok K,
  (Fa.glo "is_whole").ok K,
  (Fa.glo "is_count").ok K,
  (Fa.glo "is_pair").ok K,
  (Fa.glo "kept_of").ok K,
  (Fa.glo "merged").ok K,
  (Fa.glo "starts_anew").ok K,
  (Fa.glo "common").ok K,
  (Fa.glo "gaps").ok K,
  (Fa.glo "earlier_end").ok K,
  (Fa.glo "sum_of_ends").ok K,
  (Fa.glo "NoStretch").ok K,
  (Fa.glo "AgeError").ok K,
  (Fa.glo "_law_source").ok K,
  (Fa.glo "_law_draw").ok K,
  (Fa.glo "_law_pick").ok K,
  (Fa.glo "_law_refused").ok K,
  (Fa.glo "_law_of").ok K,
  (Fa.free "isinstance").ok K,
  (Fa.free "int").ok K,
  (Fa.free "bool").ok K,
  (Fa.free "tuple").ok K,
  (Fa.free "len").ok K,
  (Fa.free "sorted").ok K,
  (Fa.free "enumerate").ok K,
  (Fa.free "range").ok K,
  (Fa.free "max").ok K,
  (Fa.free "min").ok K,
  (Fa.free "sum").ok K,
  (Fa.free "abs").ok K,
  (Fa.free "ValueError").ok K,
  (Fa.cls "Stretches").ok K,
  (Fa.noat "Stretches" "kept").ok K,
  insB K (ga K "Stretches"),
  (["NoneType", "bool", "int", "str", "list", "tuple", "dict"] : List String).all fun t => decide (PySem.W.kitOne K (.type t) (.ref (ga K "Stretches")) = some false),
  (["NoneType", "bool", "int", "str", "list", "tuple", "dict"] : List String).all fun t => PySem.W.notFirst K (ga K "Stretches") (.type t),
  ([.BitAnd, .BitOr, .Sub, .Add] : List Operator).all fun op => (["NoneType", "bool", "int", "str", "list", "tuple", "dict"] : List String).all fun t => binTB K op (ga K "Stretches") t,
  exB K (ga K "NoStretch"),
  (Fa.noat "NoStretch" "index").ok K,
  decide (PySem.W.exmOne K (.ref (ga K "NoStretch")) (.ref (ga K "NoStretch")) = some true),
  decide (PySem.W.kitOne K (.ref (ga K "NoStretch")) (.ref (ga K "AgeError")) = some true),
  decide (PySem.W.kitOne K (.ref (ga K "NoStretch")) (.type "ValueError") = some true),
  smB K (ga K "Stretches") "one" (ma K (ga K "Stretches") "one") (He5.wf K (ga K "Stretches") "staticmethod" "one"),
  binB K .BitAnd (ga K "Stretches") (ma K (ga K "Stretches") "__and__"),
  binB K .BitOr (ga K "Stretches") (ma K (ga K "Stretches") "__or__"),
  binB K .Sub (ga K "Stretches") (ma K (ga K "Stretches") "__sub__"),
  binB K .Add (ga K "Stretches") (ma K (ga K "Stretches") "__add__"),
  cmpB K .LtE (ga K "Stretches") (ma K (ga K "Stretches") "__le__"),
  binRB K .Add (ga K "Stretches") (ma K (ga K "Stretches") "__radd__"),
  decide (PySem.W.subIn K (.ref (ga K "Stretches")) (.type "bool") = some false),
  neB K (ga K "Stretches") (ma K (ga K "Stretches") "__eq__"),
  PySem.W.notFirst K (ga K "Stretches") (.ref (ga K "Stretches")),
  lamB K lams,
  decide (PySem.W.findIn K (.ref (ga K "NoStretch")) "__init__" = some (some (.ref (ma K (ga K "NoStretch") "__init__")))),
  decide (PySem.W.typeIn K (.ref (ma K (ga K "NoStretch") "__init__")) = some (.type "function")),
  oexB K (ga K "NoStretch"),
  (Fa.mkr "Stretches").ok K,
  (Fa.meth "Stretches" "spread").ok K,
  (Fa.glo "law").ok K]
def htabs : List Tab := []
abbrev R : PySem.W.OpenRow := PySem.W.OpenLaw.row PySem.Challenge.rw_agedfiles_k05_stretches_refused
abbrev hk : PySem.W.Hook := hookM 5 lams hfacts hdefs htabs
def ob (s : PySem.W.SharedT) : AF.SeenT × Bool := lookTM 5 lams hfacts hdefs htabs (HandSHeadRun.getT s)
theorem ob_eq (s : PySem.W.SharedT) : ob s = hk.obs s.abs := lookTM_eq (HandSHeadRun.getT_eq s)
abbrev names : List PySem.Str := ["_wall", "__name__", "AgeError", "NoStretch", "is_whole", "is_count", "Stretches", "is_pair", "kept_of", "merged", "starts_anew", "common", "gaps", "earlier_end", "sum_of_ends", "_law_source", "_law_draw", "_law_pick", "_law_refused", "_law_of"]
theorem run0 (w : World) : HandSHeadRun.RunEq R (PySem.W.view R.prog [23]) hk ob 12000 names (w.withFollow "special-get-raises" false) := by
  intro os
  kernel_rfl
theorem run1 (w : World) : HandSHeadRun.RunEq R (PySem.W.view R.prog [23]) hk ob 12000 names (w.withFollow "special-get-raises" true) := by
  intro os
  kernel_rfl
theorem run (w : World) : HandSHeadRun.RunEq R (PySem.W.view R.prog [23]) hk ob 12000 names w :=
  PySem.W.byRow2 "special-get-raises" (P := fun w => HandSHeadRun.RunEq R (PySem.W.view R.prog [23]) hk ob 12000 names w) run0 run1 w
end

end K1
namespace K1
open PySem PySem.Spec PyProof.Rows L2 AF LamX
local macro_rules | `(tactic| purse 7003 => fail) => `(tactic| k_dflt (refine Sh.has_ (by assumption) ?_; repeat (first | exact On.here | apply On.next)))
local macro_rules | `(tactic| purse 7004 => fail) => `(tactic| k_dflt (repeat (first | exact On.here | apply On.next)))
local macro_rules | `(tactic| purse 7005 => fail) => `(tactic| (repeat (first | exact Rep.here | apply Rep.next)))
local macro_rules | `(tactic| purse 7006 => fail) => `(tactic| (exact Sh.out (by assumption) (fun b h => by simp [h])))
local macro_rules | `(tactic| purse 7007 => fail) => `(tactic| k_dflt (first | ((with_reducible refine cdivw ?_ ?_) <;> omega) | ((with_reducible show CDiv _ _); constructor <;> omega) | ((with_reducible show CMul _ _); (first | (left; constructor <;> omega) | (right; constructor <;> omega))) | (show (0 : Int) < _; omega)))
local macro_rules | `(tactic| purse 7008 => fail) => `(tactic| first | exact Kd.int _ | exact Kd.bl _ | exact Kd.non | exact Kd.str _ | exact Kd.ins (by (purse 7003 => fail)) | exact Kd.lst (by (purse 7003 => fail)) | exact Kd.tup (by (purse 7003 => fail)))
local macro_rules | `(tactic| purse 7009 => fail) => `(tactic| first | exact DpAll.nil | (apply DpAll.cons; (purse 7010 => fail); (purse 7009 => fail)))
local macro_rules | `(tactic| purse 7010 => fail) => `(tactic| first | exact Dp.int _ | exact Dp.bl _ | exact Dp.non | exact Dp.str _ | (refine dp_int ?_; omega) | (refine dp_bl ?_; simp only [decide_eq_decide]; omega) | (apply dp_lst; (purse 7003 => fail); (purse 7009 => fail)) | (apply dp_tup; (purse 7003 => fail); (purse 7009 => fail)))
local macro_rules | `(tactic| purse 7011 => fail) => `(tactic| first | assumption | omega)
local macro_rules | `(tactic| purse 7001 => fail) => `(tactic| fail "no use")
local macro_rules | `(tactic| purse 7002 => fail) => `(tactic| first
  | (with_reducible refine set_go ?_)
  | (with_reducible refine Step.go ?_)
  | (with_reducible first | refine g_pow10_6 ?_ | refine g_pow10_7 ?_ | refine g_pow10_18 ?_ | refine g_pow10_29 ?_ | refine g_pow10_30 ?_)
  | ((with_reducible refine' g_I ?a0 ?_); (case a0 => (purse 7007 => fail)))
  | ((with_reducible refine' g_ixL ?a0 ?a1 ?_); (case a0 => (purse 7003 => fail)); (case a1 => k_dflt (exact rfl)))
  | ((with_reducible refine' g_kfld ?a0 ?a1 ?a2 ?a3 ?_); (case a0 => (purse 7003 => fail)); (case a1 => k_dflt (assumption)); (case a2 => k_dflt (assumption)); (case a3 => k_dflt (exact rfl)))
  | ((with_reducible refine' g_kprop ?a0 ?_); (case a0 => (purse 7003 => fail)))
  | ((with_reducible refine' g_kmeth ?a0 ?a1 ?_); (case a0 => (purse 7003 => fail)); (case a1 => k_dflt (exact rfl)))
  | ((with_reducible refine' g_own ?a0 ?a1 ?a2 ?_); (case a0 => (purse 7003 => fail)); (case a1 => (purse 7008 => fail)); (case a2 => k_dflt (assumption)))
  | ((with_reducible refine' g_cmp ?a0 ?a1 ?a2 ?_); (case a0 => (purse 7003 => fail)); (case a1 => (purse 7008 => fail)); (case a2 => k_dflt (assumption)))
  | ((with_reducible refine' g_neq ?a0 ?a1 ?a2 ?_); (case a0 => (purse 7003 => fail)); (case a1 => (purse 7008 => fail)); (case a2 => k_dflt (assumption)))
  | ((with_reducible refine' g_right ?a0 ?_); (case a0 => (purse 7003 => fail)))
  | ((with_reducible refine' use_draw ?a0 ?a1 ?a2 ?a3 ?a4 ?_); (case a0 => assumption); (case a1 => intro _ _; (purse 7005 => fail)); (case a2 => assumption); (case a3 => (purse 7011 => fail)); (case a4 => (purse 7011 => fail)); intro _ _ _ _ _ _ _ _)
  | ((with_reducible refine' use_giveI ?a0 ?a1 ?a2 ?_); (case a0 => assumption); (case a1 => intro _ _; (purse 7005 => fail)); (case a2 => assumption); intro _ _ _ _ _ _ _ _)
  | ((with_reducible refine' use_source ?a0 ?a1 ?_); (case a0 => assumption); (case a1 => k_dflt (assumption)); intro _ _ _ _ _ _)
  | (with_reducible refine g_absN ?_; intro _ _)
  | (with_reducible refine g_maxN ?_; intro _ _ _ _)
  | (with_reducible refine g_minN ?_; intro _ _ _ _)
  | ((with_reducible refine' g_kR1 ?a0 ?a1 ?_); (case a0 => omega); (case a1 => omega))
  | ((with_reducible refine' g_neD ?a0 ?a1 ?a2 ?_); (case a0 => (purse 7010 => fail)); (case a1 => (purse 7010 => fail)); (case a2 => k_dflt (rfl)))
  | ((with_reducible refine' g_eqD ?a0 ?a1 ?a2 ?_); (case a0 => (purse 7010 => fail)); (case a1 => (purse 7010 => fail)); (case a2 => k_dflt (rfl)))
  | ((with_reducible refine' g_klst ?a0 ?a1 ?_); (case a0 => assumption); (case a1 => k_dflt (exact rfl)); intro _ _ _ _)
  | ((with_reducible refine' g_ktup ?a0 ?a1 ?_); (case a0 => assumption); (case a1 => k_dflt (exact rfl)); intro _ _ _ _)
  | ((with_reducible refine' g_setL ?a0 ?a1 ?a2 ?_); (case a0 => assumption); (case a1 => (purse 7005 => fail)); (case a2 => k_dflt (exact rfl)); intro _ _)
  | ((with_reducible refine' g_unl3 ?a0 ?_); (case a0 => (purse 7003 => fail)))
  | (purse 7001 => fail))
local macro_rules | `(tactic| purse 7012 => fail) => `(tactic| ((try (with_reducible refine start_go ?_)); repeat (purse 7002 => fail)))
local macro_rules | `(tactic| purse 7013 => fail) => `(tactic| first | rfl | (refine decide_eq_true ?_; omega) | (simp only [Bool.not_eq_true', Bool.not_eq_false', decide_eq_false_iff_not, decide_eq_true_eq, Bool.not_not, decide_eq_decide]; done) | (simp only [Bool.not_eq_true', Bool.not_eq_false', decide_eq_false_iff_not, decide_eq_true_eq, Bool.not_not, decide_eq_decide]; omega))
local macro_rules | `(tactic| purse 7014 => fail) => `(tactic| first | rfl | (refine decide_eq_false ?_; omega) | (simp only [Bool.not_eq_true', Bool.not_eq_false', decide_eq_false_iff_not, decide_eq_true_eq, Bool.not_not, decide_eq_decide]; done) | (simp only [Bool.not_eq_true', Bool.not_eq_false', decide_eq_false_iff_not, decide_eq_true_eq, Bool.not_not, decide_eq_decide]; omega))
local macro_rules | `(tactic| purse 7015 => fail) => `(tactic| ((refine g_yes ?h ?_); (case h => (purse 7013 => fail))))
local macro_rules | `(tactic| purse 7016 => fail) => `(tactic| ((refine g_no ?h ?_); (case h => (purse 7014 => fail))))
local macro_rules | `(tactic| purse 7017 => fail) => `(tactic| first | (purse 7015 => fail) | (purse 7016 => fail))
local macro_rules | `(tactic| purse 7018 => fail) => `(tactic| repeat ((purse 7012 => fail); (purse 7017 => fail)))
local macro_rules | `(tactic| purse 7019 => fail) => `(tactic| repeat (first | exact intIn_nil | refine intIn_cons (by omega) (by omega) ?_))
local macro_rules | `(tactic| purse 7020 => fail) => `(tactic| (simp only [List.length_cons, List.length_nil]; omega))
local macro_rules | `(tactic| purse 7021 => fail) => `(tactic| (refine g_two (fun c => ?_) (fun c => ?_) <;> first | (have c := of_decide_eq_true c) | (have c := of_decide_eq_false c) | skip))
local macro_rules | `(tactic| purse 7022 => fail) => `(tactic| ((purse 7018 => fail); (purse 7012 => fail); try ((purse 7021 => fail) <;> (purse 7022 => fail))))

section
open He
variable {P : Program} {w : World} {K : PySem.W.Frag} {mg : Str → Option Value} {base : Heap} {f : Addr} {fd : FuncData}
theorem err_NoStretch (F : FnP K "__init__" "NoStretch.__init__" s_NoStretch___init__ f fd) (T : OexC K (ga K "NoStretch")) (hno : PySem.W.findIn K (.ref (ga K "NoStretch")) "index" = some none) : FnOk P w K mg base (L2.CX P w) 3 f fd ["self", "index"] (spErr (ga K "NoStretch") "index") := by
  refine F.ok c_NoStretch___init__ (fun vs H Q E h => ?_) (fun cdv A outer s H vs Q E hr h => ⟨_, pss_one (ps_ost (pv 0) (pv 1)), ?_⟩)
  · obtain ⟨a, v, rfl, _⟩ := h
    rfl
  · obtain ⟨a, v, rfl, ha, k⟩ := h
    exact read_err (E := E) (σ := [some (.ref a), some v]) T hno ⟨a, v, rfl, ha, k⟩ StartI.en (fun a2 v2 e => by cases e; exact ⟨rfl, rfl⟩)
end

section
open He
theorem all_ok {P : Program} {w : World} {K : PySem.W.Frag} {h : Heap} {mg : Str → Option Value} {f : Addr} (X : K.In h) (G : h.Ns mainGlobals mg) (hfa : mg ("law" : Str) = some (.ref f)) (c : TellsT hfacts hdefs htabs w K) (hb : ∀ x ∈ lams, lawB K x = true) :
    ∃ fd : FuncData, (∀ (s : Shared) (v : Value), BindsTo s fd ⟨[v], []⟩ [("script", v)]) ∧ ∀ base : Heap, K.In base → base.Ns mainGlobals mg → (∀ p ∈ lamC K lams, TabB base mg p.1 p.2) → FnG P w K mg base (L2.CX P w) 24 f fd ["script"] (spLaw K lams) := by
  have T : TW K w mg := {
    g_Stretches := glo_ok X G (c.d.fact 0 (b := (Fa.glo "Stretches").ok K) rfl),
    g_is_whole := glo_ok X G (c.d.fact 1 (b := (Fa.glo "is_whole").ok K) rfl),
    g_is_count := glo_ok X G (c.d.fact 2 (b := (Fa.glo "is_count").ok K) rfl),
    g_is_pair := glo_ok X G (c.d.fact 3 (b := (Fa.glo "is_pair").ok K) rfl),
    g_kept_of := glo_ok X G (c.d.fact 4 (b := (Fa.glo "kept_of").ok K) rfl),
    g_merged := glo_ok X G (c.d.fact 5 (b := (Fa.glo "merged").ok K) rfl),
    g_starts_anew := glo_ok X G (c.d.fact 6 (b := (Fa.glo "starts_anew").ok K) rfl),
    g_common := glo_ok X G (c.d.fact 7 (b := (Fa.glo "common").ok K) rfl),
    g_gaps := glo_ok X G (c.d.fact 8 (b := (Fa.glo "gaps").ok K) rfl),
    g_earlier_end := glo_ok X G (c.d.fact 9 (b := (Fa.glo "earlier_end").ok K) rfl),
    g_sum_of_ends := glo_ok X G (c.d.fact 10 (b := (Fa.glo "sum_of_ends").ok K) rfl),
    g_NoStretch := glo_ok X G (c.d.fact 11 (b := (Fa.glo "NoStretch").ok K) rfl),
    g_AgeError := glo_ok X G (c.d.fact 12 (b := (Fa.glo "AgeError").ok K) rfl),
    g_law_source := glo_ok X G (c.d.fact 13 (b := (Fa.glo "_law_source").ok K) rfl),
    g_law_draw := glo_ok X G (c.d.fact 14 (b := (Fa.glo "_law_draw").ok K) rfl),
    g_law_pick := glo_ok X G (c.d.fact 15 (b := (Fa.glo "_law_pick").ok K) rfl),
    g_law_refused := glo_ok X G (c.d.fact 16 (b := (Fa.glo "_law_refused").ok K) rfl),
    g_law_of := glo_ok X G (c.d.fact 17 (b := (Fa.glo "_law_of").ok K) rfl),
    z_isinstance := free_ok X G (c.d.fact 18 (b := (Fa.free "isinstance").ok K) rfl),
    z_int := free_ok X G (c.d.fact 19 (b := (Fa.free "int").ok K) rfl),
    z_bool := free_ok X G (c.d.fact 20 (b := (Fa.free "bool").ok K) rfl),
    z_tuple := free_ok X G (c.d.fact 21 (b := (Fa.free "tuple").ok K) rfl),
    z_len := free_ok X G (c.d.fact 22 (b := (Fa.free "len").ok K) rfl),
    z_sorted := free_ok X G (c.d.fact 23 (b := (Fa.free "sorted").ok K) rfl),
    z_enumerate := free_ok X G (c.d.fact 24 (b := (Fa.free "enumerate").ok K) rfl),
    z_range := free_ok X G (c.d.fact 25 (b := (Fa.free "range").ok K) rfl),
    z_max := free_ok X G (c.d.fact 26 (b := (Fa.free "max").ok K) rfl),
    z_min := free_ok X G (c.d.fact 27 (b := (Fa.free "min").ok K) rfl),
    z_sum := free_ok X G (c.d.fact 28 (b := (Fa.free "sum").ok K) rfl),
    z_abs := free_ok X G (c.d.fact 29 (b := (Fa.free "abs").ok K) rfl),
    z_ValueError := free_ok X G (c.d.fact 30 (b := (Fa.free "ValueError").ok K) rfl),
    cl := cls_ok (c.d.fact 31 (b := (Fa.cls "Stretches").ok K) rfl),
    nK := noat_ok (c.d.fact 32 (b := (Fa.noat "Stretches" "kept").ok K) rfl),
    ic := insB_ok (cls_ok (c.d.fact 31 (b := (Fa.cls "Stretches").ok K) rfl)) (c.d.fact 33 (b := insB K (ga K "Stretches")) rfl),
    kSt := fun t ht => of_decide_eq_true (List.all_eq_true.mp (c.d.fact 34 (b := (["NoneType", "bool", "int", "str", "list", "tuple", "dict"] : List String).all fun t => decide (PySem.W.kitOne K (.type t) (.ref (ga K "Stretches")) = some false)) rfl) t ht),
    nfT := fun t ht => List.all_eq_true.mp (c.d.fact 35 (b := (["NoneType", "bool", "int", "str", "list", "tuple", "dict"] : List String).all fun t => PySem.W.notFirst K (ga K "Stretches") (.type t)) rfl) t ht,
    beT := fun op ho t ht => binTB_ok (List.all_eq_true.mp (List.all_eq_true.mp (c.d.fact 36 (b := ([.BitAnd, .BitOr, .Sub, .Add] : List Operator).all fun op => (["NoneType", "bool", "int", "str", "list", "tuple", "dict"] : List String).all fun t => binTB K op (ga K "Stretches") t) rfl) op ho) t ht),
    xc := exB_ok (c.d.fact 37 (b := exB K (ga K "NoStretch")) rfl),
    nov := noat_ok (c.d.fact 38 (b := (Fa.noat "NoStretch" "index").ok K) rfl),
    me := of_decide_eq_true (c.d.fact 39 (b := decide (PySem.W.exmOne K (.ref (ga K "NoStretch")) (.ref (ga K "NoStretch")) = some true)) rfl),
    ka := of_decide_eq_true (c.d.fact 40 (b := decide (PySem.W.kitOne K (.ref (ga K "NoStretch")) (.ref (ga K "AgeError")) = some true)) rfl),
    kv := of_decide_eq_true (c.d.fact 41 (b := decide (PySem.W.kitOne K (.ref (ga K "NoStretch")) (.type "ValueError") = some true)) rfl),
    sm_one := smB_ok (c.d.fact 42 (b := smB K (ga K "Stretches") "one" (ma K (ga K "Stretches") "one") (He5.wf K (ga K "Stretches") "staticmethod" "one")) rfl),
    ban := binB_ok (c.d.fact 43 (b := binB K .BitAnd (ga K "Stretches") (ma K (ga K "Stretches") "__and__")) rfl),
    bor := binB_ok (c.d.fact 44 (b := binB K .BitOr (ga K "Stretches") (ma K (ga K "Stretches") "__or__")) rfl),
    bsub := binB_ok (c.d.fact 45 (b := binB K .Sub (ga K "Stretches") (ma K (ga K "Stretches") "__sub__")) rfl),
    ba := binB_ok (c.d.fact 46 (b := binB K .Add (ga K "Stretches") (ma K (ga K "Stretches") "__add__")) rfl),
    cle := cmpB_ok (c.d.fact 47 (b := cmpB K .LtE (ga K "Stretches") (ma K (ga K "Stretches") "__le__")) rfl),
    br := binRB_ok (c.d.fact 48 (b := binRB K .Add (ga K "Stretches") (ma K (ga K "Stretches") "__radd__")) rfl),
    hbb := of_decide_eq_true (c.d.fact 49 (b := decide (PySem.W.subIn K (.ref (ga K "Stretches")) (.type "bool") = some false)) rfl),
    ne := neB_ok (c.d.fact 50 (b := neB K (ga K "Stretches") (ma K (ga K "Stretches") "__eq__")) rfl),
    nfC := (c.d.fact 51 (b := PySem.W.notFirst K (ga K "Stretches") (.ref (ga K "Stretches"))) rfl) }
  have te : TQE K w mg := T.toTQE
  have tq : TQ K w mg := te.toTQ
  have tp : TPk K mg := T.toTPk
  have trd : TRD K := ⟨T.ba, fun t ht => T.beT _ (by simp) t ht⟩
  have nd : (lams.map (lawP K)).Nodup := of_decide_eq_true (c.d.fact 52 (b := lamB K lams) rfl)
  obtain ⟨fd0, F0⟩ := c.d.def_ 0 rfl
  have F0 : FnP K "law" "law" s_law (ga K "law") fd0 := F0
  obtain ⟨fd1, F1⟩ := c.d.def_ 1 rfl
  have F1 : FnP K "_law_source" "_law_source" s_law_source (ga K "_law_source") fd1 := F1
  have b1 : Binds K fd1 ["script", "turn"] [] := F1.bindsN fun _ _ _ _ _ _ us hl => match us, hl with | [_, _], _ => rfl
  obtain ⟨fd2, F2⟩ := c.d.def_ 2 rfl
  have F2 : FnP K "_law_draw" "_law_draw" s_law_draw (ga K "_law_draw") fd2 := F2
  have b2 : Binds K fd2 ["source", "amount"] [] := F2.bindsN fun _ _ _ _ _ _ us hl => match us, hl with | [_, _], _ => rfl
  obtain ⟨fd3, F3⟩ := c.d.def_ 3 rfl
  have F3 : FnP K "_law_pick" "_law_pick" s_law_pick (ga K "_law_pick") fd3 := F3
  have b3 : Binds K fd3 ["source", "items"] [] := F3.bindsN fun _ _ _ _ _ _ us hl => match us, hl with | [_, _], _ => rfl
  obtain ⟨fd4, F4⟩ := c.d.def_ 4 rfl
  have F4 : FnP K "_law_refused" "_law_refused" s_law_refused (ga K "_law_refused") fd4 := F4
  have b4 : Binds K fd4 ["call"] [] := F4.bindsN fun _ _ _ _ _ _ us hl => match us, hl with | [_], _ => rfl
  obtain ⟨fd5, F5⟩ := c.d.def_ 5 rfl
  have F5 : FnP K "_law_of" "_law_of" s_law_of (ga K "_law_of") fd5 := F5
  have b5 : Binds K fd5 ["pairs"] [] := F5.bindsN fun _ _ _ _ _ _ us hl => match us, hl with | [_], _ => rfl
  obtain ⟨fd6, F6⟩ := c.d.def_ 6 rfl
  have F6 : FnP K "is_whole" "is_whole" s_is_whole (ga K "is_whole") fd6 := F6
  have b6 : Binds K fd6 ["value"] [] := F6.bindsN fun _ _ _ _ _ _ us hl => match us, hl with | [_], _ => rfl
  obtain ⟨fd7, F7⟩ := c.d.def_ 7 rfl
  have F7 : FnP K "is_count" "is_count" s_is_count (ga K "is_count") fd7 := F7
  have b7 : Binds K fd7 ["value"] [] := F7.bindsN fun _ _ _ _ _ _ us hl => match us, hl with | [_], _ => rfl
  obtain ⟨fd8, F8⟩ := c.d.def_ 8 rfl
  have F8 : FnP K "is_pair" "is_pair" s_is_pair (ga K "is_pair") fd8 := F8
  have b8 : Binds K fd8 ["value"] [] := F8.bindsN fun _ _ _ _ _ _ us hl => match us, hl with | [_], _ => rfl
  obtain ⟨fd9, F9⟩ := c.d.def_ 9 rfl
  have F9 : FnP K "kept_of" "kept_of" s_kept_of (ga K "kept_of") fd9 := F9
  have b9 : Binds K fd9 ["value"] [] := F9.bindsN fun _ _ _ _ _ _ us hl => match us, hl with | [_], _ => rfl
  obtain ⟨fd10, F10⟩ := c.d.def_ 10 rfl
  have F10 : FnP K "merged" "merged" s_merged (ga K "merged") fd10 := F10
  have b10 : Binds K fd10 ["pairs"] [] := F10.bindsN fun _ _ _ _ _ _ us hl => match us, hl with | [_], _ => rfl
  obtain ⟨fd11, F11⟩ := c.d.def_ 11 rfl
  have F11 : FnP K "starts_anew" "starts_anew" s_starts_anew (ga K "starts_anew") fd11 := F11
  have b11 : Binds K fd11 ["lows", "highs", "k"] [] := F11.bindsN fun _ _ _ _ _ _ us hl => match us, hl with | [_, _, _], _ => rfl
  obtain ⟨fd12, F12⟩ := c.d.def_ 12 rfl
  have F12 : FnP K "common" "common" s_common (ga K "common") fd12 := F12
  have b12 : Binds K fd12 ["one", "other"] [] := F12.bindsN fun _ _ _ _ _ _ us hl => match us, hl with | [_, _], _ => rfl
  obtain ⟨fd13, F13⟩ := c.d.def_ 13 rfl
  have F13 : FnP K "gaps" "gaps" s_gaps (ga K "gaps") fd13 := F13
  have b13 : Binds K fd13 ["pairs"] [] := F13.bindsN fun _ _ _ _ _ _ us hl => match us, hl with | [_], _ => rfl
  obtain ⟨fd14, F14⟩ := c.d.def_ 14 rfl
  have F14 : FnP K "earlier_end" "earlier_end" s_earlier_end (ga K "earlier_end") fd14 := F14
  have b14 : Binds K fd14 ["one", "other"] [] := F14.bindsN fun _ _ _ _ _ _ us hl => match us, hl with | [_, _], _ => rfl
  obtain ⟨fd15, F15⟩ := c.d.def_ 15 rfl
  have F15 : FnP K "sum_of_ends" "sum_of_ends" s_sum_of_ends (ga K "sum_of_ends") fd15 := F15
  have b15 : Binds K fd15 ["one", "other"] [] := F15.bindsN fun _ _ _ _ _ _ us hl => match us, hl with | [_, _], _ => rfl
  obtain ⟨fd16, F16⟩ := c.d.def_ 16 rfl
  have F16 : FnP K "__init__" "Stretches.__init__" s_Stretches___init__ (ma K (ga K "Stretches") "__init__") fd16 := F16
  obtain ⟨fd17, F17⟩ := c.d.def_ 17 rfl
  have F17 : FnP K "__and__" "Stretches.__and__" s_Stretches___and__ (ma K (ga K "Stretches") "__and__") fd17 := F17
  have b17 : Binds K fd17 ["self", "other"] [] := F17.bindsN fun _ _ _ _ _ _ us hl => match us, hl with | [_, _], _ => rfl
  obtain ⟨fd18, F18⟩ := c.d.def_ 18 rfl
  have F18 : FnP K "__or__" "Stretches.__or__" s_Stretches___or__ (ma K (ga K "Stretches") "__or__") fd18 := F18
  have b18 : Binds K fd18 ["self", "other"] [] := F18.bindsN fun _ _ _ _ _ _ us hl => match us, hl with | [_, _], _ => rfl
  obtain ⟨fd19, F19⟩ := c.d.def_ 19 rfl
  have F19 : FnP K "__sub__" "Stretches.__sub__" s_Stretches___sub__ (ma K (ga K "Stretches") "__sub__") fd19 := F19
  have b19 : Binds K fd19 ["self", "other"] [] := F19.bindsN fun _ _ _ _ _ _ us hl => match us, hl with | [_, _], _ => rfl
  obtain ⟨fd20, F20⟩ := c.d.def_ 20 rfl
  have F20 : FnP K "__le__" "Stretches.__le__" s_Stretches___le__ (ma K (ga K "Stretches") "__le__") fd20 := F20
  have b20 : Binds K fd20 ["self", "other"] [] := F20.bindsN fun _ _ _ _ _ _ us hl => match us, hl with | [_, _], _ => rfl
  obtain ⟨fd21, F21⟩ := c.d.def_ 21 rfl
  have F21 : FnP K "__add__" "Stretches.__add__" s_Stretches___add__ (ma K (ga K "Stretches") "__add__") fd21 := F21
  have b21 : Binds K fd21 ["self", "other"] [] := F21.bindsN fun _ _ _ _ _ _ us hl => match us, hl with | [_, _], _ => rfl
  obtain ⟨fd22, F22⟩ := c.d.def_ 22 rfl
  have F22 : FnP K "__radd__" "Stretches.__radd__" s_Stretches___radd__ (ma K (ga K "Stretches") "__radd__") fd22 := F22
  have b22 : Binds K fd22 ["self", "other"] [] := F22.bindsN fun _ _ _ _ _ _ us hl => match us, hl with | [_, _], _ => rfl
  obtain ⟨fd23, F23⟩ := c.d.def_ 23 rfl
  have F23 : FnP K "__eq__" "Stretches.__eq__" s_Stretches___eq__ (ma K (ga K "Stretches") "__eq__") fd23 := F23
  have b23 : Binds K fd23 ["self", "other"] [] := F23.bindsN fun _ _ _ _ _ _ us hl => match us, hl with | [_, _], _ => rfl
  obtain ⟨fd24, F24⟩ := c.d.def_ 24 rfl
  have F24 : FnP K "spread" "Stretches.spread" s_Stretches_spread (ma K (ga K "Stretches") "spread") fd24 := F24
  have b24 : Binds K fd24 ["self", "least", "most"] [] := F24.bindsN fun _ _ _ _ _ _ us hl => match us, hl with | [_, _, _], _ => rfl
  obtain ⟨fd25, F25⟩ := c.d.def_ 25 rfl
  have F25 : FnP K "one" "Stretches.one" s_Stretches_one (He5.wf K (ga K "Stretches") "staticmethod" "one") fd25 := F25
  have b25 : Binds K fd25 ["n"] [] := F25.bindsN fun _ _ _ _ _ _ us hl => match us, hl with | [_], _ => rfl
  obtain ⟨fd26, F26⟩ := c.d.def_ 26 rfl
  have F26 : FnP K "__init__" "NoStretch.__init__" s_NoStretch___init__ (ma K (ga K "NoStretch") "__init__") fd26 := F26
  have b26 : Binds K fd26 ["self", "index"] [] := F26.bindsN fun _ _ _ _ _ _ us hl => match us, hl with | [_, _], _ => rfl
  have e := hfa.symm.trans (glo_ok X G (c.d.fact 58 (b := (Fa.glo "law").ok K) rfl))
  cases e
  have bl := FunD.bindsA (ps := ["script"]) F0 fun _ _ _ _ _ _ us hl => match us, hl with | [_], _ => rfl
  refine ⟨fd0, fun s v => bl s [v] rfl, fun base _ _ hTB => ?_⟩
  have DL : Mkr K mg base lams "law" := mkr_of hTB hb nd (.head _)
  have D_law_source : Dn P w K mg base 2 (ga K "_law_source") ["script", "turn"] (spSource K) := ⟨⟨fd1, ok_source F1 tp.toTL, b1⟩, F1.kp⟩
  have D_law_draw : Dn P w K mg base 2 (ga K "_law_draw") ["source", "amount"] (spDraw) := ⟨⟨fd2, ok_draw F2 tp.toTL, b2⟩, F2.kp⟩
  have D_law_pick : Dn P w K mg base 4 (ga K "_law_pick") ["source", "items"] (spPick) := ⟨⟨fd3, ok_pick F3 tp D_law_draw, b3⟩, F3.kp⟩
  have D_is_whole : Dn P w K mg base 2 (ga K "is_whole") ["value"] (spWhole) := ⟨⟨fd6, ok_whole F6 tq, b6⟩, F6.kp⟩
  have D_wholeD : Dn P w K mg base 2 (ga K "is_whole") ["value"] (spWholeD) := ⟨⟨fd6, ok_wholeD F6 tq, b6⟩, F6.kp⟩
  have D_is_count : Dn P w K mg base 4 (ga K "is_count") ["value"] (spCnt) := ⟨⟨fd7, ok_cnt F7 tq D_is_whole, b7⟩, F7.kp⟩
  have D_cntD : Dn P w K mg base 4 (ga K "is_count") ["value"] (spCntD) := ⟨⟨fd7, ok_cntD F7 tq D_wholeD, b7⟩, F7.kp⟩
  have D_is_pair : Dn P w K mg base 6 (ga K "is_pair") ["value"] (spPair) := ⟨⟨fd8, ok_pair F8 tq D_is_count, b8⟩, F8.kp⟩
  have D_pairD : Dn P w K mg base 6 (ga K "is_pair") ["value"] (spPairD) := ⟨⟨fd8, ok_pairD F8 tq D_cntD, b8⟩, F8.kp⟩
  have D_starts_anew : Dn P w K mg base 2 (ga K "starts_anew") ["lows", "highs", "k"] (spAnew) := ⟨⟨fd11, ok_anew F11 tq, b11⟩, F11.kp⟩
  have D_merged : Dn P w K mg base 6 (ga K "merged") ["pairs"] (spMerged) := ⟨⟨fd10, ok_merged F10 tq D_starts_anew, b10⟩, F10.kp⟩
  have D_earlier_end : Dn P w K mg base 2 (ga K "earlier_end") ["one", "other"] (spEarly) := ⟨⟨fd14, ok_early F14 tq, b14⟩, F14.kp⟩
  have D_sum_of_ends : Dn P w K mg base 2 (ga K "sum_of_ends") ["one", "other"] (spSumE) := ⟨⟨fd15, ok_sume F15 tq, b15⟩, F15.kp⟩
  have D_common : Dn P w K mg base 6 (ga K "common") ["one", "other"] (spCommon) := ⟨⟨fd12, ok_common F12 tq D_earlier_end, b12⟩, F12.kp⟩
  have D_gaps : Dn P w K mg base 6 (ga K "gaps") ["pairs"] (spGaps) := ⟨⟨fd13, ok_gaps F13 tq, b13⟩, F13.kp⟩
  have X_NoStretch : Xn P w K mg base 3 (ga K "NoStretch") "index" := ⟨⟨_, fd26, ["self", "index"], of_decide_eq_true (c.d.fact 53 (b := decide (PySem.W.findIn K (.ref (ga K "NoStretch")) "__init__" = some (some (.ref (ma K (ga K "NoStretch") "__init__"))))) rfl), of_decide_eq_true (c.d.fact 54 (b := decide (PySem.W.typeIn K (.ref (ma K (ga K "NoStretch") "__init__")) = some (.type "function"))) rfl), err_NoStretch F26 (oexB_ok (c.d.fact 55 (b := oexB K (ga K "NoStretch")) rfl)) (noat_ok (c.d.fact 38 (b := (Fa.noat "NoStretch" "index").ok K) rfl)), b26⟩, oexB_ok (c.d.fact 55 (b := oexB K (ga K "NoStretch")) rfl)⟩
  have D_keptE : Dn P w K mg base 6 (ga K "kept_of") ["value"] (spKeptE (ga K "NoStretch")) := ⟨⟨fd9, ok_keptE F9 te X_NoStretch, b9⟩, F9.kp⟩
  have D_mergedF : Dn P w K mg base 6 (ga K "merged") ["pairs"] (fun _ _ _ _ => False) := ⟨⟨fd10, (ok_merged F10 tq D_starts_anew).imp (fun _ _ _ _ h => h.elim), b10⟩, F10.kp⟩
  have M_Stretches : Ms P w K mg base 8 (ga K "Stretches") (spMkR (ga K "Stretches")) := ⟨⟨_, ok_mk F16 tq D_is_pair D_merged, mkr_ok (c.d.fact 56 (b := (Fa.mkr "Stretches").ok K) rfl)⟩⟩
  have M_E : Ms P w K mg base 8 (ga K "Stretches") (spMkRE (ga K "Stretches") (ga K "NoStretch")) := ⟨⟨_, ok_mkE F16 te X_NoStretch D_pairD D_mergedF, mkr_ok (c.d.fact 56 (b := (Fa.mkr "Stretches").ok K) rfl)⟩⟩
  have D_andE : Dn P w K mg base 12 (ma K (ga K "Stretches") "__and__") ["self", "other"] (spOpE (ga K "Stretches") (ga K "NoStretch")) := ⟨⟨fd17, ok_andE F17 tq D_keptE D_common M_Stretches, b17⟩, F17.kp⟩
  have D_orE : Dn P w K mg base 12 (ma K (ga K "Stretches") "__or__") ["self", "other"] (spOpE (ga K "Stretches") (ga K "NoStretch")) := ⟨⟨fd18, ok_orE F18 tq D_keptE M_Stretches, b18⟩, F18.kp⟩
  have D_subE : Dn P w K mg base 12 (ma K (ga K "Stretches") "__sub__") ["self", "other"] (spOpE (ga K "Stretches") (ga K "NoStretch")) := ⟨⟨fd19, ok_subE F19 tq D_keptE D_gaps D_common M_Stretches, b19⟩, F19.kp⟩
  have D_leE : Dn P w K mg base 12 (ma K (ga K "Stretches") "__le__") ["self", "other"] (spOpE (ga K "Stretches") (ga K "NoStretch")) := ⟨⟨fd20, ok_leE F20 tq D_keptE D_gaps D_common, b20⟩, F20.kp⟩
  have H_spread : Hn P w K mg base 12 (ga K "Stretches") "spread" (spSpreadE (ga K "Stretches") (ga K "NoStretch")) := ⟨⟨_, fd24, ["self", "least", "most"], ok_spreadE F24 te X_NoStretch D_pairD D_sum_of_ends M_Stretches, b24, meth_ok (c.d.fact 57 (b := (Fa.meth "Stretches" "spread").ok K) rfl)⟩, T.cl⟩
  have D_addE : Dn P w K mg base 14 (ma K (ga K "Stretches") "__add__") ["self", "other"] (spAddE (ga K "Stretches") (ga K "NoStretch")) := ⟨⟨fd21, ok_addE F21 tq H_spread, b21⟩, F21.kp⟩
  have D_raddE : Dn P w K mg base 16 (ma K (ga K "Stretches") "__radd__") ["self", "other"] (spAddE (ga K "Stretches") (ga K "NoStretch")) := ⟨⟨fd22, ok_raddE F22 trd D_addE, b22⟩, F22.kp⟩
  have D_eq : Dn P w K mg base 4 (ma K (ga K "Stretches") "__eq__") ["self", "other"] (spEqS (ga K "Stretches")) := ⟨⟨fd23, ok_eq F23 tq, b23⟩, F23.kp⟩
  have D_law_of : Dn P w K mg base 12 (ga K "_law_of") ["pairs"] (spOf (ga K "Stretches")) := ⟨⟨fd5, ok_of F5 tq M_Stretches, b5⟩, F5.kp⟩
  have D_ofE : Dn P w K mg base 12 (ga K "_law_of") ["pairs"] (spOfE (ga K "Stretches") (ga K "NoStretch")) := ⟨⟨fd5, ok_ofE F5 tq M_E, b5⟩, F5.kp⟩
  have D_oneE : Dn P w K mg base 12 (He5.wf K (ga K "Stretches") "staticmethod" "one") ["n"] (spOneE (ga K "Stretches") (ga K "NoStretch")) := ⟨⟨fd25, ok_oneE F25 tq M_E, b25⟩, F25.kp⟩
  exact ok_law F0 T F4 b4 DL D_law_draw D_law_source D_law_pick D_law_of D_ofE D_oneE D_andE D_orE D_subE D_leE D_addE D_raddE H_spread D_eq
end

end K1
open PySem PySem.W PySem.Calls PyProof.Rows
set_option maxRecDepth 100000 in
set_option maxHeartbeats 0 in
theorem PySem.Challenge.cw_agedfiles_k05_stretches_refused_holds : PySem.Challenge.rw_agedfiles_k05_stretches_refused.Holds := by
  w_on; o_law
  refine HandSHeadRun.head_any (r := OpenLaw.row PySem.Challenge.rw_agedfiles_k05_stretches_refused) (q := view (OpenLaw.row PySem.Challenge.rw_agedfiles_k05_stretches_refused).prog [23]) (H := K1.hk) (ob := K1.ob) (M := 12000) (loose := K1.names) (d := HandSHeadRun.topDef (OpenLaw.row PySem.Challenge.rw_agedfiles_k05_stretches_refused).prog 23) (kwd := []) K1.ob_eq
    (by kernel_rfl) (fun s => by kernel_rfl) K1.run (by kernel_rfl) (by kernel_rfl) (by kernel_rfl) (by rfl) (by first | assumption | decide +kernel) (by decide +kernel) ⟨rfl, rfl, rfl, rfl, rfl, by decide +kernel⟩ ?hw ?hc
  case hw => w_witness2
  case hc =>
    refine AF.walk_ofG (l := PySem.Challenge.rw_agedfiles_k05_stretches_refused) (n := 63) (k := 24) (x := "script") (CX := fun w => L2.CX (PySem.Challenge.rw_agedfiles_k05_stretches_refused).prog w) rfl (by decide) (by kernel_rfl) ⟨rfl, by decide, by decide⟩ ?F (fun _ _ _ _ _ z => ?N)
    case N =>
      obtain ⟨_, _, _, _, _, _, _, _, _, _, _, _, h⟩ := z
      exact h
    case F =>
      intro w mg fa h Y G hmg0
      obtain ⟨K, KX, c, hb0⟩ := Y
      have hb1 : ∀ x ∈ K1.lams, AF.lawB K x = true := fun x hx => (hb0 x hx).1
      have hmg : mg ("law" : PySem.Str) = some (.ref fa) := by
        have e : (HandSHeadRun.topDef (OpenLaw.row PySem.Challenge.rw_agedfiles_k05_stretches_refused).prog 23).name = ("law" : PySem.Str) := by kernel_rfl
        rw [← e]
        exact hmg0
      obtain ⟨fd, hb, hF⟩ := K1.all_ok (P := (PySem.Challenge.rw_agedfiles_k05_stretches_refused).prog) (w := w) KX G hmg c hb1
      exact ⟨K, KX, fd, AF.lamC K K1.lams, K1.spLaw K K1.lams, (fun p hp => by
        obtain ⟨x, hx, rfl⟩ := List.mem_map.mp hp
        exact (hb0 x hx).2), AF.lamC_n hb1, AF.lamC_C KX hb1, hb, fun H a ns hl _ hT hS => ⟨a, ns, rfl, hS, hl, AF.tabs0 hT, fun _ => rfl⟩, fun base h1 h2 h3 => hF base h1 h2 h3⟩
