import PyProof.Rows.All
import Wide.All
import OpenK.AllK
import Wide.FinOn
import HandS.ForExc
import HandS.Comp
import HandS.Wide
import HandS.IsInst
import HandS.Codes
import HandS.ExcInit
import HandS.Property
import HandS.Defaults
import HandS.HeadHook2
import HandS.HeadEnd
import HandS.HeadNt
import HandS.Head2
import KE.DataEq
import HandS.NoneIn
import HandS.SetFor
import HandS.More
import HandS.Dict
import HandS.Small
import HandS.ClsMeth
import HandS.ExcField
import HandS.ExcIs
import HandS.TryMany
import HandS.DictComp
import HandS.Iter
import HandS.Conv
import KE.KCallOwn
import HandS.Style
import HandS.TupLe
import HandS.HeadHook3
import HandS.HeadWalk
import HandS.RaiseMore
import PyProof.RowDictHeap
import HandS.CallSlots
import HandS.Strs
import HandS.Lambda
import KE.KNestM
import HandS.Star
import HandS.TupAny
import HandS.SortInts
import PyProof.Rows.Range3
import PyProof.Conv_bool
import KE.KTupTruth
import KE.GoesMore
import OpenK.KOps
import HandS.Flow
import KE.KRevSl
import OpenK.KMeth
import HandS.MakeKwOnly
import PyProof.DictUpdate
import PyProof.DictCopy
import KE.KOpsOwn
import HandS.Walk
import HandS.TupSets
import HandS.Deep
import HandS.Zip
import PySem.Challenge.RW_agedfiles_k14_rows_bent
set_option Elab.async false
set_option linter.all false
set_option maxRecDepth 100000
set_option maxHeartbeats 4000000
namespace AF
open PySem PySem.Spec PyProof.Rows L2

theorem rm {j k : Nat} {A : Around} (r : Room k A) (h : j ≤ k := by decide) : Room j A := r.mono h
/-! what stands on the heap, told by a list -/
abbrev Ent := Addr × HO × Bool
def tag (e : Ent) : Addr × Bool := (e.1, e.2.2)
def Apart (a b : Addr × Bool) : Prop := a.2 = true ∨ b.2 = true → a.1 ≠ b.1
structure Sh (H0 : Hp) (M : Addr → Prop) (H : Hp) (l : List Ent) : Prop where
  fr : ∀ b o, H0 b = some o → ¬ M b → H b = some o
  has : ∀ e, e ∈ l → H e.1 = some e.2.1
  ap : (l.map tag).Pairwise Apart
  mu : ∀ e, e ∈ l → e.2.2 = true → M e.1 ∨ H0 e.1 = none
/-- what a call leaves as it was: all but ms -/
def Ch (ms : List Addr) (H H' : Hp) : Prop := ∀ b o, H b = some o → b ∉ ms → H' b = some o
theorem Ch.rfl' {ms : List Addr} {H : Hp} : Ch ms H H := fun _ _ h _ => h
inductive Rep : List Ent → Addr → HO → HO → List Ent → Prop where
  | here {p : Addr} {o o' : HO} {r : List Ent} : Rep ((p, o, true) :: r) p o o' ((p, o', true) :: r)
  | next {e : Ent} {l : List Ent} {p : Addr} {o o' : HO} {l' : List Ent} : Rep l p o o' l' → Rep (e :: l) p o o' (e :: l')
theorem Rep.tags {l l' : List Ent} {p : Addr} {o o' : HO} (r : Rep l p o o' l') : l'.map tag = l.map tag := by
  induction r with
  | here => rfl
  | next _ ih => rw [List.map_cons, List.map_cons, ih]
theorem Rep.mem {l l' : List Ent} {p : Addr} {o o' : HO} (r : Rep l p o o' l') : (p, o, true) ∈ l := by
  induction r with
  | here => exact List.mem_cons_self
  | next _ ih => exact List.mem_cons_of_mem _ ih
theorem Rep.mem' {l l' : List Ent} {p : Addr} {o o' : HO} (r : Rep l p o o' l') : (p, o', true) ∈ l' := by
  induction r with
  | here => exact List.mem_cons_self
  | next _ ih => exact List.mem_cons_of_mem _ ih
theorem Rep.other {l l' : List Ent} {p : Addr} {o o' : HO} (r : Rep l p o o' l') (ap : (l.map tag).Pairwise Apart) : ∀ e, e ∈ l' → e = (p, o', true) ∨ (e ∈ l ∧ e.1 ≠ p) := by
  induction r with
  | here =>
    intro e he
    rcases List.mem_cons.mp he with h | h
    · exact .inl h
    · rw [List.map_cons, List.pairwise_cons] at ap
      exact .inr ⟨List.mem_cons_of_mem _ h, fun z => ap.1 (tag e) (List.mem_map.mpr ⟨e, h, rfl⟩) (.inl rfl) z.symm⟩
  | @next e0 l p o o' l' r ih =>
    intro e he
    rw [List.map_cons, List.pairwise_cons] at ap
    rcases List.mem_cons.mp he with h | h
    · subst h
      refine .inr ⟨List.mem_cons_self, fun z => ?_⟩
      exact ap.1 (tag (p, o, true)) (List.mem_map.mpr ⟨_, r.mem, rfl⟩) (.inr rfl) z
    · rcases ih ap.2 e h with h | ⟨h, n⟩
      · exact .inl h
      · exact .inr ⟨List.mem_cons_of_mem _ h, n⟩
inductive On : List Ent → Addr → HO → Prop where
  | here {p : Addr} {o : HO} {m : Bool} {r : List Ent} : On ((p, o, m) :: r) p o
  | next {e : Ent} {l : List Ent} {p : Addr} {o : HO} : On l p o → On (e :: l) p o
theorem On.mem {l : List Ent} {p : Addr} {o : HO} (h : On l p o) : ∃ m, (p, o, m) ∈ l := by
  induction h with
  | here => exact ⟨_, List.mem_cons_self⟩
  | next _ ih =>
    obtain ⟨m, h⟩ := ih
    exact ⟨m, List.mem_cons_of_mem _ h⟩
section
variable {H0 : Hp} {M : Addr → Prop} {H H' : Hp} {l l' : List Ent} {p q b : Addr} {o o' : HO} {m : Bool}
theorem Sh.at_ (S : Sh H0 M H l) (h : (p, o, m) ∈ l) : H p = some o := S.has _ h
theorem Sh.has_ (S : Sh H0 M H l) (h : On l p o) : H p = some o := by
  obtain ⟨m, h⟩ := h.mem
  exact S.has _ h
theorem Sh.ch0 (S : Sh H0 M H l) (c : Ch [] H H') : Sh H0 M H' l :=
  ⟨fun b o h n => c b o (S.fr b o h n) List.not_mem_nil, fun e he => c _ _ (S.has e he) List.not_mem_nil, S.ap, S.mu⟩
theorem Sh.ch1 (S : Sh H0 M H l) (r : Rep l p o o' l') (c : Ch [p] H H') (h : H' p = some o') : Sh H0 M H' l' := by
  have mp := S.mu _ r.mem rfl
  refine ⟨fun b u hb n => ?_, fun e he => ?_, by rw [r.tags]; exact S.ap, fun e he hm => ?_⟩
  · by_cases e : b = p
    · subst e
      rcases mp with k | k
      · exact absurd k n
      · rw [show H0 b = none from k] at hb; cases hb
    · exact c b u (S.fr b u hb n) (by simpa using e)
  · rcases r.other S.ap e he with h1 | ⟨h1, h2⟩
    · rw [h1]; exact h
    · exact c _ _ (S.has e h1) (by simpa using h2)
  · rcases r.other S.ap e he with h1 | ⟨h1, _⟩
    · rw [h1]; exact mp
    · exact S.mu e h1 hm
theorem Sh.add (S : Sh H0 M H l) (c : Ch [] H H') (hn : H q = none) (h : H' q = some o) : Sh H0 M H' ((q, o, true) :: l) := by
  have S' := S.ch0 c
  refine ⟨S'.fr, fun e he => ?_, ?_, fun e he hm => ?_⟩
  · rcases List.mem_cons.mp he with h1 | h1
    · rw [h1]; exact h
    · exact S'.has e h1
  · rw [List.map_cons, List.pairwise_cons]
    refine ⟨fun t ht _ z => ?_, S.ap⟩
    obtain ⟨e, he, rfl⟩ := List.mem_map.mp ht
    have z' : q = e.1 := z
    have := S.has e he
    rw [← z', hn] at this; cases this
  · rcases List.mem_cons.mp he with h1 | h1
    · rw [h1]
      by_cases k : M q
      · exact .inl k
      · refine .inr ?_
        cases e0 : H0 q with
        | none => rfl
        | some u => rw [S.fr q u e0 k] at hn; cases hn
    · exact S.mu e h1 hm
theorem ch_upd_new (hn : H p = none) : Ch [] H (upd H p o) := fun b u h _ => by
  rw [upd_ne (ne_of_none h hn)]; exact h
theorem ch_upd : Ch [p] H (upd H p o) := fun b u h n => by
  rw [upd_ne (by simpa using n)]; exact h
theorem Sh.new (S : Sh H0 M H l) (hn : H p = none) : Sh H0 M (upd H p o) ((p, o, true) :: l) := S.add (ch_upd_new hn) hn upd_same
theorem Sh.put (S : Sh H0 M H l) (r : Rep l p o o' l') : Sh H0 M (upd H p o') l' := S.ch1 r ch_upd upd_same
theorem Sh.out {ms : List Addr} (S : Sh H0 M H l) (h : ∀ b, M b → b ∈ ms) : Ch ms H0 H := fun b o hb n => S.fr b o hb fun k => n (h b k)
theorem Sh.was (S : Sh H0 M H l) (hn : H q = none) (k : ¬ M q) : H0 q = none := by
  cases e0 : H0 q with
  | none => rfl
  | some u => rw [S.fr q u e0 k] at hn; cases hn
theorem Sh.seq {K : PySem.W.Frag} {a : Addr} {xs : List V} (S : Sh H0 M H l) (k : ¬ M a) (h : SqL K H0 a xs) : SqL K H a xs := by
  rcases h with (h | ⟨o, h⟩) | h
  · exact .inl (.inl (S.fr _ _ h k))
  · exact .inl (.inr ⟨o, S.fr _ _ h k⟩)
  · exact .inr h
theorem Sh.start {M : Addr → Prop} : Sh H M H [] := ⟨fun _ _ h _ => h, fun _ h => (nomatch h), List.Pairwise.nil, fun _ h => (nomatch h)⟩
/-- one more thing that stands, not to be changed, apart from what may be -/
theorem Sh.know (S : Sh H0 M H l) (h : H p = some o) (d : ∀ e, e ∈ l → e.2.2 = true → p ≠ e.1) : Sh H0 M H ((p, o, false) :: l) := by
  refine ⟨S.fr, fun e he => ?_, ?_, fun e he hm => ?_⟩
  · rcases List.mem_cons.mp he with h1 | h1
    · rw [h1]; exact h
    · exact S.has e h1
  · rw [List.map_cons, List.pairwise_cons]
    refine ⟨fun t ht k => ?_, S.ap⟩
    obtain ⟨e, he, rfl⟩ := List.mem_map.mp ht
    rcases k with k | k
    · cases k
    · exact d e he k
  · rcases List.mem_cons.mp he with h1 | h1
    · rw [h1] at hm; cases hm
    · exact S.mu e h1 hm
/-- one that may be changed -/
theorem Sh.take (S : Sh H0 M H l) (h : H p = some o) (k : M p) (d : ∀ e, e ∈ l → p ≠ e.1) : Sh H0 M H ((p, o, true) :: l) := by
  refine ⟨S.fr, fun e he => ?_, ?_, fun e he hm => ?_⟩
  · rcases List.mem_cons.mp he with h1 | h1
    · rw [h1]; exact h
    · exact S.has e h1
  · rw [List.map_cons, List.pairwise_cons]
    refine ⟨fun t ht _ => ?_, S.ap⟩
    obtain ⟨e, he, rfl⟩ := List.mem_map.mp ht
    exact d e he
  · rcases List.mem_cons.mp he with h1 | h1
    · rw [h1]; exact .inl k
    · exact S.mu e h1 hm
end

/-! slots -/
inductive SetS : L2.St → Nat → V → L2.St → Prop where
  | z {a : Option V} {r : L2.St} {x : V} : SetS (a :: r) 0 x (some x :: r)
  | s {a : Option V} {r r' : L2.St} {i : Nat} {x : V} : SetS r i x r' → SetS (a :: r) (i + 1) x (a :: r')
theorem SetS.eq {σ σ' : L2.St} {i : Nat} {x : V} (h : SetS σ i x σ') : σ.set i (some x) = σ' := by
  induction h with
  | z => rfl
  | s _ ih => rw [List.set_cons_succ, ih]

/-! what is asked behind a part, by name -/
def kB (Q : Bool → Hp → Prop) (x : V) (H : Hp) : Prop := ∃ k, x = .bl k ∧ Q k H
def kAnd (Q : VK) (tb : TE) (σ : L2.St) (x : V) (H : Hp) : Prop := ∃ c, x = .bl c ∧ if c = true then tb σ H Q else Q (.bl false) H
def kOr (Q : VK) (tb : TE) (σ : L2.St) (x : V) (H : Hp) : Prop := ∃ c, x = .bl c ∧ if c = true then Q (.bl true) H else tb σ H Q
def kNot (Q : VK) (x : V) (H : Hp) : Prop := ∃ c, x = .bl c ∧ Q (.bl (!c)) H
def kLst (Q : VK) (xs : List V) (H : Hp) : Prop := xs.length ≤ sizeLine ∧ ∀ p, H p = none → Q (.ref p) (upd H p (.lst xs))
def kTup (Q : VK) (xs : List V) (H : Hp) : Prop := xs.length ≤ sizeLine ∧ ∀ p, H p = none → Q (.ref p) (upd H p (.tup xs))
def kFld (K : PySem.W.Frag) (f : Str) (Q : VK) (x : V) (H : Hp) : Prop := ∃ a C dx fs v, x = .ref a ∧ H a = some (.ins C dx fs) ∧ Cls K C ∧ NoAttr K C f ∧ fs.lookup f = some v ∧ Q v H
def kSFld (K : PySem.W.Frag) (f : Str) (P : Hp → Prop) (y x : V) (H : Hp) : Prop := ∃ a C dx fs, x = .ref a ∧ H a = some (.ins C dx fs) ∧ Cls K C ∧ NoAttr K C f ∧ fs.length < 1000 ∧ P (upd H a (.ins C dx (putF f y fs)))
def kPar (nx : L2.St → Hp → Prop) (σ : L2.St) (i j : Nat) (vs : List V) (H : Hp) : Prop := ∃ v w, vs = [v, w] ∧ nx ((σ.set i (some v)).set j (some w)) H

/-! one step each -/
section
variable {σ σ' : L2.St} {H : Hp} {Q : VK} {nx : L2.St → Hp → Prop} {rt : VK} {bk ct : L2.St → Hp → Prop} {ta tb te : TE} {t u : TS} {c : TT} {i j : Int} {x y : V} {K : PySem.W.Frag} {a C dx : Addr} {fs : List (Str × V)} {f : Str} {v : V}
theorem g_seq (h : t ⟨fun σ H => u ⟨nx, rt, bk, ct⟩ σ H, rt, bk, ct⟩ σ H) : tSeq t u ⟨nx, rt, bk, ct⟩ σ H := h
theorem g_next (h : nx σ H) : tNext ⟨nx, rt, bk, ct⟩ σ H := h
theorem g_asg {i : Nat} (h : te σ H fun x H1 => nx (σ.set i (some x)) H1) : tAsg te (gName i) ⟨nx, rt, bk, ct⟩ σ H := h
theorem g_set {i : Nat} {P : L2.St → Hp → Prop} (s : SetS σ i x σ') (h : P σ' H) : P (σ.set i (some x)) H := by rw [s.eq]; exact h
theorem g_ret (h : te σ H rt) : tRet te ⟨nx, rt, bk, ct⟩ σ H := h
theorem g_retN (h : rt .non H) : tRetN ⟨nx, rt, bk, ct⟩ σ H := h
theorem g_drop (h : te σ H fun _ H1 => nx σ H1) : tDrop te ⟨nx, rt, bk, ct⟩ σ H := h
theorem g_if (h : c σ H fun b H1 => if b = true then t ⟨nx, rt, bk, ct⟩ σ H1 else u ⟨nx, rt, bk, ct⟩ σ H1) : tIfS c t u ⟨nx, rt, bk, ct⟩ σ H := h
theorem g_var {i : Nat} (h : σ[i]? = some (some v)) (q : Q v H) : tVar i σ H Q := ⟨v, h, q⟩
theorem g_c (q : Q v H) : tC v σ H Q := q
theorem g_op {r : R2} (h : ta σ H fun x H1 => tb σ H1 fun y H2 => r x y H2 Q) : tOp r ta tb σ H Q := h
theorem g_un {r : V → Hp → VK → Prop} (h : ta σ H fun x H1 => r x H1 Q) : tUn r ta σ H Q := h
theorem g_I0 {g : Int → Int → V} (q : Q (g i j) H) : rI0 g (.int i) (.int j) H Q := ⟨i, j, rfl, rfl, q⟩
theorem g_I {D : Int → Int → Prop} {g : Int → Int → V} (d : D i j) (q : Q (g i j) H) : rI D g (.int i) (.int j) H Q := ⟨i, j, rfl, rfl, d, q⟩
theorem g_U {g : Int → V} (q : Q (g i) H) : rU g (.int i) H Q := ⟨i, rfl, q⟩
theorem g_eqI (q : Q (.bl (decide (i = j))) H) : rEq (.int i) (.int j) H Q := ⟨rfl, by
  have e : decide (V.int i = V.int j) = decide (i = j) := by rw [dec_int]; rfl
  rw [e]; exact q⟩
theorem g_neI (q : Q (.bl (!decide (i = j))) H) : rNe (.int i) (.int j) H Q := ⟨rfl, by
  have e : decide (V.int i = V.int j) = decide (i = j) := by rw [dec_int]; rfl
  rw [e]; exact q⟩
theorem g_test {Q : Bool → Hp → Prop} (h : te σ H (kB Q)) : tTest te σ H Q := h
theorem g_tB {Q : Bool → Hp → Prop} (h : te σ H (kB Q)) : tB te σ H Q := h
theorem g_kb {Q : Bool → Hp → Prop} {k : Bool} (q : Q k H) : kB Q (.bl k) H := ⟨k, rfl, q⟩
theorem g_kand {k : Bool} (q : if k = true then tb σ H Q else Q (.bl false) H) : kAnd Q tb σ (.bl k) H := ⟨k, rfl, q⟩
theorem g_kor {k : Bool} (q : if k = true then Q (.bl true) H else tb σ H Q) : kOr Q tb σ (.bl k) H := ⟨k, rfl, q⟩
theorem g_knot {k : Bool} (q : Q (.bl (!k)) H) : kNot Q (.bl k) H := ⟨k, rfl, q⟩
theorem g_tnot {Q : Bool → Hp → Prop} (h : c σ H fun k H1 => Q (!k) H1) : tNot c σ H Q := h
theorem g_tand {d : TT} {Q : Bool → Hp → Prop} (h : c σ H fun k H1 => if k = true then d σ H1 Q else Q false H1) : tAnd c d σ H Q := h
theorem g_tor {d : TT} {Q : Bool → Hp → Prop} (h : c σ H fun k H1 => if k = true then Q true H1 else d σ H1 Q) : tOr c d σ H Q := h
theorem g_andV (h : ta σ H (kAnd Q tb σ)) : tAndV ta tb σ H Q := h
theorem g_orV (h : ta σ H (kOr Q tb σ)) : tOrV ta tb σ H Q := h
theorem g_notV (h : ta σ H (kNot Q)) : tNotV ta σ H Q := h
theorem g_ifE (h : c σ H fun k H1 => if k = true then ta σ H1 Q else tb σ H1 Q) : tIf c ta tb σ H Q := h
theorem g_nil {Q : List V → Hp → Prop} (q : Q [] H) : tNil σ H Q := q
theorem g_cons {tr : TA} {Q : List V → Hp → Prop} (h : ta σ H fun x H1 => tr σ H1 fun xs H2 => Q (x :: xs) H2) : tCons ta tr σ H Q := h
theorem g_cb {r : List V → Hp → VK → Prop} {tr : TA} (h : tr σ H fun vs H1 => r vs H1 Q) : tCB r tr σ H Q := h
theorem g_call {sp : Sp} {E : XK} {tr : TA} (h : tr σ H fun vs H1 => sp vs H1 Q E) : tCall sp [] E tr σ H Q := by
  have e : (fun (vs : List V) (H1 : Hp) => sp (vs ++ []) H1 Q E) = fun vs H1 => sp vs H1 Q E := by
    funext vs H1; rw [List.append_nil]
  show tr σ H fun vs H1 => sp (vs ++ []) H1 Q E
  rw [e]; exact h
theorem g_lst {tr : TA} (h : tr σ H (kLst Q)) : tLst tr σ H Q := h
theorem g_tup {tr : TA} (h : tr σ H (kTup Q)) : tTup tr σ H Q := h
theorem line_of {n : Nat} (h : Nat.ble n 1000 = true) : n ≤ sizeLine := Nat.le_trans (Nat.le_of_ble_eq_true h) (Nat.le_of_lt (small1000 (Nat.le_refl _)))
theorem g_klst {H0 : Hp} {M : Addr → Prop} {l : List Ent} {xs : List V} (S : Sh H0 M H l) (hn : Nat.ble xs.length 1000 = true) (q : ∀ p H', H p = none → Sh H0 M H' ((p, .lst xs, true) :: l) → Q (.ref p) H') : kLst Q xs H := ⟨line_of hn, fun p hp => q p _ hp (S.new hp)⟩
theorem g_ktup {H0 : Hp} {M : Addr → Prop} {l : List Ent} {xs : List V} (S : Sh H0 M H l) (hn : Nat.ble xs.length 1000 = true) (q : ∀ p H', H p = none → Sh H0 M H' ((p, .tup xs, true) :: l) → Q (.ref p) H') : kTup Q xs H := ⟨line_of hn, fun p hp => q p _ hp (S.new hp)⟩
theorem g_fld (h : ta σ H (kFld K f Q)) : tFld K ta f σ H Q := h
theorem g_kfld (ho : H a = some (.ins C dx fs)) (hc : Cls K C) (hn : NoAttr K C f) (hl : fs.lookup f = some v) (q : Q v H) : kFld K f Q (.ref a) H :=
  ⟨a, C, dx, fs, v, rfl, ho, hc, hn, hl, q⟩
theorem g_sfld {tv : TE} (h : tv σ H fun y H1 => ta σ H1 (kSFld K f (nx σ) y)) : sFld K ta tv f ⟨nx, rt, bk, ct⟩ σ H := h
theorem g_ksfld {H0 : Hp} {M : Addr → Prop} {l l' : List Ent} {P : Hp → Prop} (S : Sh H0 M H l) (r : Rep l a (.ins C dx fs) (.ins C dx (putF f y fs)) l') (hc : Cls K C) (hn : NoAttr K C f) (hl : fs.length < 1000) (q : ∀ H', Sh H0 M H' l' → P H') : kSFld K f P y (.ref a) H :=
  ⟨a, C, dx, fs, rfl, S.has _ r.mem, hc, hn, hl, q _ (S.put r)⟩
theorem g_ixL {p : Addr} {xs : List V} (h : H p = some (.lst xs)) (ha : atI xs i = some v) (q : Q v H) : rIxL K (.ref p) (.int i) H Q := ⟨p, xs, i, v, rfl, rfl, SqL.of h, ha, q⟩
theorem g_ixQ {p : Addr} {xs : List V} (h : SqL K H p xs) (ha : atI xs i = some v) (q : Q v H) : rIxL K (.ref p) (.int i) H Q := ⟨p, xs, i, v, rfl, rfl, h, ha, q⟩
theorem g_sub {to ti : TE} {s : TSet} (h : te σ H fun x H1 => to σ H1 fun o H2 => ti σ H2 fun i H3 => s o i x H3 fun H4 => nx σ H4) : tAsg te (gSub to ti s) ⟨nx, rt, bk, ct⟩ σ H := h
theorem g_setL {H0 : Hp} {M : Addr → Prop} {l l' : List Ent} {P : Hp → Prop} {p : Addr} {xs : List V} {j : Nat} (S : Sh H0 M H l) (r : Rep l p (.lst xs) (.lst (xs.set j v)) l') (hj : ixN xs.length i = some j) (q : ∀ H', Sh H0 M H' l' → P H') :
    rSetL (.ref p) (.int i) v H P := ⟨p, xs, i, j, rfl, rfl, S.has _ r.mem, hj, q _ (S.put r)⟩
theorem g_par {i j : Nat} {tr : TA} (h : tr σ H (kPar nx σ i j)) : tPar i j tr ⟨nx, rt, bk, ct⟩ σ H := h
theorem g_kpar {i j : Nat} {σ2 : L2.St} (s : SetS σ i x σ') (s2 : SetS σ' j y σ2) (q : nx σ2 H) : kPar nx σ i j [x, y] H := ⟨x, y, rfl, by rw [s.eq, s2.eq]; exact q⟩
end

/-! the slots at the entry -/
inductive Ent0 : List Str → List V → L2.St → Prop where
  | nil : Ent0 [] [] []
  | val {x : Str} {N : List Str} {v : V} {vs : List V} {σ : L2.St} : Ent0 N vs σ → Ent0 (x :: N) (v :: vs) (some v :: σ)
  | non {x : Str} {N : List Str} {σ : L2.St} : Ent0 N [] σ → Ent0 (x :: N) [] (none :: σ)
theorem Ent0.eq {N : List Str} {vs : List V} {σ : L2.St} (h : Ent0 N vs σ) : L2.start N vs = σ := by
  induction h with
  | nil => rfl
  | @val x N v vs σ _ ih =>
    have e : (x :: N).length - (v :: vs).length = N.length - vs.length := by simp
    unfold L2.start at ih ⊢
    rw [e, List.map_cons, List.cons_append, ih]
  | @non x N σ _ ih =>
    unfold L2.start at ih ⊢
    simp only [List.map_nil, List.nil_append, List.length_cons, List.length_nil, Nat.sub_zero, List.replicate_succ] at ih ⊢
    rw [ih]
theorem g_start {N : List Str} {vs : List V} {σ : L2.St} {P : L2.St → Hp → Prop} {H : Hp} (h : Ent0 N vs σ) (q : P σ H) : P (L2.start N vs) H := by rw [h.eq]; exact q

theorem cdivw {i j : Int} (h1 : 1 ≤ j) (h2 : j ≤ 10 ^ 60) : CDivW i j := by
  refine wide_div (b := 200) (by omega) ?_ (by decide) (by decide)
  have e : ((j.natAbs : Nat) : Int) = j := Int.natAbs_of_nonneg (by omega)
  have e2 : ((10 : Int) ^ 60) < 2 ^ 200 := by decide
  have h : ((j.natAbs : Nat) : Int) < ((2 ^ 200 : Nat) : Int) := by
    rw [e]
    exact Int.lt_of_le_of_lt h2 (by decide)
  exact Int.ofNat_lt.mp h
/-! built-ins by named readings -/
def rInt1 : List V → Hp → VK → Prop := fun xs H Q => (∃ i, xs = [.int i] ∧ Q (.int i) H) ∨ ∃ k, xs = [.bl k] ∧ Q (.int (if k then 1 else 0)) H
def rAbs1 : List V → Hp → VK → Prop := fun xs H Q => ∃ i, xs = [.int i] ∧ Q (.int (if i < 0 then -i else i)) H
def rMaxI : List V → Hp → VK → Prop := fun xs H Q => ∃ i j, xs = [.int i, .int j] ∧ Q (.int (if j > i then j else i)) H
def rMinI : List V → Hp → VK → Prop := fun xs H Q => ∃ i j, xs = [.int i, .int j] ∧ Q (.int (if j < i then j else i)) H
def rLenQ (K : PySem.W.Frag) : List V → Hp → VK → Prop := fun xs H Q => ∃ p ys, xs = [.ref p] ∧ (SqL K H p ys ∨ SqT K H p ys) ∧ Q (.int ys.length) H
section
variable {X : Cx} {H : Hp} {Q : VK} {i j : Int} {K : PySem.W.Frag} {p : Addr} {xs : List V}
theorem cl_int : CallR X (.type "int") rInt1 := call_int1
theorem cl_abs : CallR X (.builtin "abs") rAbs1 := call_abs
theorem cl_max (hc : X.calm = true) : CallR X (.builtin "max") rMaxI := call_max2 hc
theorem cl_min (hc : X.calm = true) : CallR X (.builtin "min") rMinI := call_min2 hc
theorem cl_len : CallR X (.builtin "len") (rLenQ X.K) := call_len_seq
theorem g_pow10_2 (q : Q (.int 100) H) : rI CPow (fun i j => .int (i ^ j.toNat)) (.int 10) (.int 2) H Q := by
  refine ⟨10, 2, rfl, rfl, ⟨by decide, by decide, by decide⟩, ?_⟩
  have e : ((10 : Int) ^ (2 : Int).toNat) = 100 := by decide
  show Q (.int ((10 : Int) ^ (2 : Int).toNat)) H
  rw [e]; exact q
theorem g_pow10_3 (q : Q (.int 1000) H) : rI CPow (fun i j => .int (i ^ j.toNat)) (.int 10) (.int 3) H Q := by
  refine ⟨10, 3, rfl, rfl, ⟨by decide, by decide, by decide⟩, ?_⟩
  have e : ((10 : Int) ^ (3 : Int).toNat) = 1000 := by decide
  show Q (.int ((10 : Int) ^ (3 : Int).toNat)) H
  rw [e]; exact q
theorem g_pow10_4 (q : Q (.int 10000) H) : rI CPow (fun i j => .int (i ^ j.toNat)) (.int 10) (.int 4) H Q := by
  refine ⟨10, 4, rfl, rfl, ⟨by decide, by decide, by decide⟩, ?_⟩
  have e : ((10 : Int) ^ (4 : Int).toNat) = 10000 := by decide
  show Q (.int ((10 : Int) ^ (4 : Int).toNat)) H
  rw [e]; exact q
theorem g_pow10_5 (q : Q (.int 100000) H) : rI CPow (fun i j => .int (i ^ j.toNat)) (.int 10) (.int 5) H Q := by
  refine ⟨10, 5, rfl, rfl, ⟨by decide, by decide, by decide⟩, ?_⟩
  have e : ((10 : Int) ^ (5 : Int).toNat) = 100000 := by decide
  show Q (.int ((10 : Int) ^ (5 : Int).toNat)) H
  rw [e]; exact q
theorem g_pow10_6 (q : Q (.int 1000000) H) : rI CPow (fun i j => .int (i ^ j.toNat)) (.int 10) (.int 6) H Q := by
  refine ⟨10, 6, rfl, rfl, ⟨by decide, by decide, by decide⟩, ?_⟩
  have e : ((10 : Int) ^ (6 : Int).toNat) = 1000000 := by decide
  show Q (.int ((10 : Int) ^ (6 : Int).toNat)) H
  rw [e]; exact q
theorem g_pow10_7 (q : Q (.int 10000000) H) : rI CPow (fun i j => .int (i ^ j.toNat)) (.int 10) (.int 7) H Q := by
  refine ⟨10, 7, rfl, rfl, ⟨by decide, by decide, by decide⟩, ?_⟩
  have e : ((10 : Int) ^ (7 : Int).toNat) = 10000000 := by decide
  show Q (.int ((10 : Int) ^ (7 : Int).toNat)) H
  rw [e]; exact q
theorem g_pow10_8 (q : Q (.int 100000000) H) : rI CPow (fun i j => .int (i ^ j.toNat)) (.int 10) (.int 8) H Q := by
  refine ⟨10, 8, rfl, rfl, ⟨by decide, by decide, by decide⟩, ?_⟩
  have e : ((10 : Int) ^ (8 : Int).toNat) = 100000000 := by decide
  show Q (.int ((10 : Int) ^ (8 : Int).toNat)) H
  rw [e]; exact q
theorem g_pow10_9 (q : Q (.int 1000000000) H) : rI CPow (fun i j => .int (i ^ j.toNat)) (.int 10) (.int 9) H Q := by
  refine ⟨10, 9, rfl, rfl, ⟨by decide, by decide, by decide⟩, ?_⟩
  have e : ((10 : Int) ^ (9 : Int).toNat) = 1000000000 := by decide
  show Q (.int ((10 : Int) ^ (9 : Int).toNat)) H
  rw [e]; exact q
theorem g_pow10_10 (q : Q (.int 10000000000) H) : rI CPow (fun i j => .int (i ^ j.toNat)) (.int 10) (.int 10) H Q := by
  refine ⟨10, 10, rfl, rfl, ⟨by decide, by decide, by decide⟩, ?_⟩
  have e : ((10 : Int) ^ (10 : Int).toNat) = 10000000000 := by decide
  show Q (.int ((10 : Int) ^ (10 : Int).toNat)) H
  rw [e]; exact q
theorem g_pow10_11 (q : Q (.int 100000000000) H) : rI CPow (fun i j => .int (i ^ j.toNat)) (.int 10) (.int 11) H Q := by
  refine ⟨10, 11, rfl, rfl, ⟨by decide, by decide, by decide⟩, ?_⟩
  have e : ((10 : Int) ^ (11 : Int).toNat) = 100000000000 := by decide
  show Q (.int ((10 : Int) ^ (11 : Int).toNat)) H
  rw [e]; exact q
theorem g_pow10_12 (q : Q (.int 1000000000000) H) : rI CPow (fun i j => .int (i ^ j.toNat)) (.int 10) (.int 12) H Q := by
  refine ⟨10, 12, rfl, rfl, ⟨by decide, by decide, by decide⟩, ?_⟩
  have e : ((10 : Int) ^ (12 : Int).toNat) = 1000000000000 := by decide
  show Q (.int ((10 : Int) ^ (12 : Int).toNat)) H
  rw [e]; exact q
theorem g_pow10_13 (q : Q (.int 10000000000000) H) : rI CPow (fun i j => .int (i ^ j.toNat)) (.int 10) (.int 13) H Q := by
  refine ⟨10, 13, rfl, rfl, ⟨by decide, by decide, by decide⟩, ?_⟩
  have e : ((10 : Int) ^ (13 : Int).toNat) = 10000000000000 := by decide
  show Q (.int ((10 : Int) ^ (13 : Int).toNat)) H
  rw [e]; exact q
theorem g_pow10_14 (q : Q (.int 100000000000000) H) : rI CPow (fun i j => .int (i ^ j.toNat)) (.int 10) (.int 14) H Q := by
  refine ⟨10, 14, rfl, rfl, ⟨by decide, by decide, by decide⟩, ?_⟩
  have e : ((10 : Int) ^ (14 : Int).toNat) = 100000000000000 := by decide
  show Q (.int ((10 : Int) ^ (14 : Int).toNat)) H
  rw [e]; exact q
theorem g_pow10_15 (q : Q (.int 1000000000000000) H) : rI CPow (fun i j => .int (i ^ j.toNat)) (.int 10) (.int 15) H Q := by
  refine ⟨10, 15, rfl, rfl, ⟨by decide, by decide, by decide⟩, ?_⟩
  have e : ((10 : Int) ^ (15 : Int).toNat) = 1000000000000000 := by decide
  show Q (.int ((10 : Int) ^ (15 : Int).toNat)) H
  rw [e]; exact q
theorem g_pow10_16 (q : Q (.int 10000000000000000) H) : rI CPow (fun i j => .int (i ^ j.toNat)) (.int 10) (.int 16) H Q := by
  refine ⟨10, 16, rfl, rfl, ⟨by decide, by decide, by decide⟩, ?_⟩
  have e : ((10 : Int) ^ (16 : Int).toNat) = 10000000000000000 := by decide
  show Q (.int ((10 : Int) ^ (16 : Int).toNat)) H
  rw [e]; exact q
theorem g_pow10_17 (q : Q (.int 100000000000000000) H) : rI CPow (fun i j => .int (i ^ j.toNat)) (.int 10) (.int 17) H Q := by
  refine ⟨10, 17, rfl, rfl, ⟨by decide, by decide, by decide⟩, ?_⟩
  have e : ((10 : Int) ^ (17 : Int).toNat) = 100000000000000000 := by decide
  show Q (.int ((10 : Int) ^ (17 : Int).toNat)) H
  rw [e]; exact q
theorem g_pow10_18 (q : Q (.int 1000000000000000000) H) : rI CPow (fun i j => .int (i ^ j.toNat)) (.int 10) (.int 18) H Q := by
  refine ⟨10, 18, rfl, rfl, ⟨by decide, by decide, by decide⟩, ?_⟩
  have e : ((10 : Int) ^ (18 : Int).toNat) = 1000000000000000000 := by decide
  show Q (.int ((10 : Int) ^ (18 : Int).toNat)) H
  rw [e]; exact q
theorem g_pow10_19 (q : Q (.int 10000000000000000000) H) : rI CPow (fun i j => .int (i ^ j.toNat)) (.int 10) (.int 19) H Q := by
  refine ⟨10, 19, rfl, rfl, ⟨by decide, by decide, by decide⟩, ?_⟩
  have e : ((10 : Int) ^ (19 : Int).toNat) = 10000000000000000000 := by decide
  show Q (.int ((10 : Int) ^ (19 : Int).toNat)) H
  rw [e]; exact q
theorem g_pow10_20 (q : Q (.int 100000000000000000000) H) : rI CPow (fun i j => .int (i ^ j.toNat)) (.int 10) (.int 20) H Q := by
  refine ⟨10, 20, rfl, rfl, ⟨by decide, by decide, by decide⟩, ?_⟩
  have e : ((10 : Int) ^ (20 : Int).toNat) = 100000000000000000000 := by decide
  show Q (.int ((10 : Int) ^ (20 : Int).toNat)) H
  rw [e]; exact q
theorem g_pow10_21 (q : Q (.int 1000000000000000000000) H) : rI CPow (fun i j => .int (i ^ j.toNat)) (.int 10) (.int 21) H Q := by
  refine ⟨10, 21, rfl, rfl, ⟨by decide, by decide, by decide⟩, ?_⟩
  have e : ((10 : Int) ^ (21 : Int).toNat) = 1000000000000000000000 := by decide
  show Q (.int ((10 : Int) ^ (21 : Int).toNat)) H
  rw [e]; exact q
theorem g_pow10_22 (q : Q (.int 10000000000000000000000) H) : rI CPow (fun i j => .int (i ^ j.toNat)) (.int 10) (.int 22) H Q := by
  refine ⟨10, 22, rfl, rfl, ⟨by decide, by decide, by decide⟩, ?_⟩
  have e : ((10 : Int) ^ (22 : Int).toNat) = 10000000000000000000000 := by decide
  show Q (.int ((10 : Int) ^ (22 : Int).toNat)) H
  rw [e]; exact q
theorem g_pow10_23 (q : Q (.int 100000000000000000000000) H) : rI CPow (fun i j => .int (i ^ j.toNat)) (.int 10) (.int 23) H Q := by
  refine ⟨10, 23, rfl, rfl, ⟨by decide, by decide, by decide⟩, ?_⟩
  have e : ((10 : Int) ^ (23 : Int).toNat) = 100000000000000000000000 := by decide
  show Q (.int ((10 : Int) ^ (23 : Int).toNat)) H
  rw [e]; exact q
theorem g_pow10_24 (q : Q (.int 1000000000000000000000000) H) : rI CPow (fun i j => .int (i ^ j.toNat)) (.int 10) (.int 24) H Q := by
  refine ⟨10, 24, rfl, rfl, ⟨by decide, by decide, by decide⟩, ?_⟩
  have e : ((10 : Int) ^ (24 : Int).toNat) = 1000000000000000000000000 := by decide
  show Q (.int ((10 : Int) ^ (24 : Int).toNat)) H
  rw [e]; exact q
theorem g_pow10_25 (q : Q (.int 10000000000000000000000000) H) : rI CPow (fun i j => .int (i ^ j.toNat)) (.int 10) (.int 25) H Q := by
  refine ⟨10, 25, rfl, rfl, ⟨by decide, by decide, by decide⟩, ?_⟩
  have e : ((10 : Int) ^ (25 : Int).toNat) = 10000000000000000000000000 := by decide
  show Q (.int ((10 : Int) ^ (25 : Int).toNat)) H
  rw [e]; exact q
theorem g_pow10_26 (q : Q (.int 100000000000000000000000000) H) : rI CPow (fun i j => .int (i ^ j.toNat)) (.int 10) (.int 26) H Q := by
  refine ⟨10, 26, rfl, rfl, ⟨by decide, by decide, by decide⟩, ?_⟩
  have e : ((10 : Int) ^ (26 : Int).toNat) = 100000000000000000000000000 := by decide
  show Q (.int ((10 : Int) ^ (26 : Int).toNat)) H
  rw [e]; exact q
theorem g_pow10_27 (q : Q (.int 1000000000000000000000000000) H) : rI CPow (fun i j => .int (i ^ j.toNat)) (.int 10) (.int 27) H Q := by
  refine ⟨10, 27, rfl, rfl, ⟨by decide, by decide, by decide⟩, ?_⟩
  have e : ((10 : Int) ^ (27 : Int).toNat) = 1000000000000000000000000000 := by decide
  show Q (.int ((10 : Int) ^ (27 : Int).toNat)) H
  rw [e]; exact q
theorem g_pow10_28 (q : Q (.int 10000000000000000000000000000) H) : rI CPow (fun i j => .int (i ^ j.toNat)) (.int 10) (.int 28) H Q := by
  refine ⟨10, 28, rfl, rfl, ⟨by decide, by decide, by decide⟩, ?_⟩
  have e : ((10 : Int) ^ (28 : Int).toNat) = 10000000000000000000000000000 := by decide
  show Q (.int ((10 : Int) ^ (28 : Int).toNat)) H
  rw [e]; exact q
theorem g_pow10_29 (q : Q (.int 100000000000000000000000000000) H) : rI CPow (fun i j => .int (i ^ j.toNat)) (.int 10) (.int 29) H Q := by
  refine ⟨10, 29, rfl, rfl, ⟨by decide, by decide, by decide⟩, ?_⟩
  have e : ((10 : Int) ^ (29 : Int).toNat) = 100000000000000000000000000000 := by decide
  show Q (.int ((10 : Int) ^ (29 : Int).toNat)) H
  rw [e]; exact q
theorem g_pow10_30 (q : Q (.int 1000000000000000000000000000000) H) : rI CPow (fun i j => .int (i ^ j.toNat)) (.int 10) (.int 30) H Q := by
  refine ⟨10, 30, rfl, rfl, ⟨by decide, by decide, by decide⟩, ?_⟩
  have e : ((10 : Int) ^ (30 : Int).toNat) = 1000000000000000000000000000000 := by decide
  show Q (.int ((10 : Int) ^ (30 : Int).toNat)) H
  rw [e]; exact q
theorem g_int (q : Q (.int i) H) : rInt1 [.int i] H Q := .inl ⟨i, rfl, q⟩
theorem g_intb {k : Bool} (q : Q (.int (if k then 1 else 0)) H) : rInt1 [.bl k] H Q := .inr ⟨k, rfl, q⟩
theorem g_abs (q : Q (.int (if i < 0 then -i else i)) H) : rAbs1 [.int i] H Q := ⟨i, rfl, q⟩
theorem g_max (q : Q (.int (if j > i then j else i)) H) : rMaxI [.int i, .int j] H Q := ⟨i, j, rfl, q⟩
theorem g_min (q : Q (.int (if j < i then j else i)) H) : rMinI [.int i, .int j] H Q := ⟨i, j, rfl, q⟩
theorem g_lenL (h : SqL K H p xs) (q : Q (.int xs.length) H) : rLenQ K [.ref p] H Q := ⟨p, xs, rfl, .inl h, q⟩
theorem g_lenT (h : SqT K H p xs) (q : Q (.int xs.length) H) : rLenQ K [.ref p] H Q := ⟨p, xs, rfl, .inr h, q⟩
theorem g_lenl (h : H p = some (.lst xs)) (q : Q (.int xs.length) H) : rLenQ K [.ref p] H Q := ⟨p, xs, rfl, .inl (SqL.of h), q⟩
theorem g_lent (h : H p = some (.tup xs)) (q : Q (.int xs.length) H) : rLenQ K [.ref p] H Q := ⟨p, xs, rfl, .inr (.inl (.inl h)), q⟩
end
theorem g_yes {A B : Prop} {k : Bool} (h : k = true) (a : A) : if k = true then A else B := by rw [if_pos h]; exact a
theorem g_no {A B : Prop} {k : Bool} (h : k = false) (b : B) : if k = true then A else B := by rw [h]; exact iteF b
theorem g_two {A B : Prop} {k : Bool} (a : k = true → A) (b : k = false → B) : if k = true then A else B := by
  cases k with
  | true => exact iteT (a rfl)
  | false => exact iteF (b rfl)

/-! a def by its promise, its parameters all given -/
structure Dn (P : Program) (w : World) (K : PySem.W.Frag) (mg : Str → Option Value) (base : Heap) (k : Nat) (a : Addr) (ps : List Str) (sp : Sp) : Prop where
  ex : ∃ fd, FnOk P w K mg base (L2.CX P w) k a fd ps sp ∧ Binds K fd ps []
  kp : PySem.W.keepIn K (.ref a) = true
section
variable {X : Cx} {k : Nat} {f C : Addr} {ps : List Str} {sp : Sp} {E : XK} {x m : Str} {p pos apos : Pos} {e o : Expr} {es : List Expr} {ta : TE} {t : TA}
theorem pe_dn (D : Dn X.prog X.w X.K X.mg X.base k f ps sp) (hr : Room k X.A) (hg : Gl X x) (hm : X.mg x = some (.ref f)) (hx : Passes (L2.CX X.prog X.w) X E) (ha : PA X (e :: es) t) (hdb : (x == ("__debug__" : Str)) = false := by decide)
    (he : starEach (e :: es) X.env = (false, eval e X.env) :: starEach es X.env := by rfl) (hpl : (backTo pos (starEach es X.env)).any (·.1) = false := by rfl) : PE X (.Call (.Name x p) (e :: es) [] pos) (tCall sp [] E t) := by
  obtain ⟨fd, F, b⟩ := D.ex
  exact pe_call F hr hg hm D.kp b .nil hx ha hdb he hpl
/-- a class made by its __init__ -/
structure Mn (P : Program) (w : World) (K : PySem.W.Frag) (mg : Str → Option Value) (base : Heap) (k : Nat) (C : Addr) (ps : List Str) (sp : Sp) : Prop where
  ex : ∃ f fd, FnOk P w K mg base (L2.CX P w) k f fd ps sp ∧ Binds K fd ps [] ∧ Mk K C f
theorem pe_mn (D : Mn X.prog X.w X.K X.mg X.base k C ps sp) (hr : Room (k + 1) X.A) (hg : Gl X x) (hm : X.mg x = some (.ref C)) (hx : Passes (L2.CX X.prog X.w) X E) (ha : PA X (e :: es) t) (hdb : (x == ("__debug__" : Str)) = false := by decide)
    (he : starEach (e :: es) X.env = (false, eval e X.env) :: starEach es X.env := by rfl) (hpl : (backTo pos (starEach es X.env)).any (·.1) = false := by rfl) : PE X (.Call (.Name x p) (e :: es) [] pos) (tMake C sp [] E t) := by
  obtain ⟨f, fd, F, b, M⟩ := D.ex
  exact pe_make M F hr hg hm b .nil hx ha hdb he hpl
end
end AF
/-! operators, properties and methods of own classes -/
namespace AF
open PySem PySem.Spec PyProof.Rows L2
open PySem.W (Looks InstAt findIn isFn subIn selfFirst notFirst looks_findIn looks_subIn)

/-- of what type a value is -/
inductive Kd (H : Hp) : V → Value → Prop where
  | non : Kd H .non (.type "NoneType")
  | bl (b : Bool) : Kd H (.bl b) (.type "bool")
  | int (i : Int) : Kd H (.int i) (.type "int")
  | str (z : Str) : Kd H (.str z) (.type "str")
  | flt (b : UInt64) : Kd H (.flt b) (.type "float")
  | ins {a C dx : Addr} {fs : List (Str × V)} (e : H a = some (.ins C dx fs)) : Kd H (.ref a) (.ref C)
  | lst {a : Addr} {xs : List V} (e : H a = some (.lst xs)) : Kd H (.ref a) (.type "list")
  | tup {a : Addr} {xs : List V} (e : H a = some (.tup xs)) : Kd H (.ref a) (.type "tuple")
  | dK {a : Addr} {kvs : List (Key × V)} (e : H a = some (.dK kvs)) : Kd H (.ref a) (.type "dict")

section
variable {X : Cx} {pins : List (Addr × Obj)} {σ : L2.St} {H : Hp} {s : Shared} {M : Model}
theorem Kd.looks {y : V} {u t : Value} (I : Inv X pins σ H s) (ry : RelV y u) (k : Kd H y t) : Looks M s.heap (typeOf u) t := by
  cases k with
  | non => cases ry; exact .now
  | bl b => cases ry; exact .now
  | int i => obtain ⟨_, rfl⟩ := ry; exact .now
  | str z => obtain ⟨_, rfl⟩ := ry; exact .now
  | flt b => obtain ⟨_, rfl⟩ := ry; exact .now
  | ins e =>
    cases ry
    obtain ⟨mA, J, _⟩ := ins_get I.hok e
    obtain ⟨od, J, _⟩ := J.look
    exact J.type
  | @lst a xs e =>
    cases ry
    obtain ⟨_, _, n, _, h1⟩ := (show ObjOk X.prog X.w H s.heap a (.lst xs) from I.hok a _ e)
    exact (Looks.ld (part := none) h1).andThen .now
  | @tup a xs e =>
    cases ry
    obtain ⟨_, _, _, o, h1, h2, _⟩ := (show ObjOk X.prog X.w H s.heap a (.tup xs) from I.hok a _ e)
    have := (Looks.ld (M := M) (part := none) h1).andThen (f := fun o => pure o.cls) .now
    rw [h2] at this
    exact this
  | @dK a kvs e =>
    cases ry
    obtain ⟨_, _, vs, _, o, es, ep, h1, h2, _⟩ := (show ObjOk X.prog X.w H s.heap a (.dK kvs) from I.hok a _ e)
    have := (Looks.ld (M := M) (part := none) h1).andThen (f := fun o => pure o.cls) .now
    rw [h2.1] at this
    exact this
end

/-! binary operators of an own class, on the left -/
structure Bin (K : PySem.W.Frag) (op : Operator) (C f : Addr) : Prop where
  hc : selfFirst K C = true
  hs : findIn K (.ref C) (PySem.dunder op.info.2) = some (some (.ref f))
  hf : isFn K (.ref f) = true
  hr : ∃ rc, findIn K (.ref C) (dunderR op.info.2) = some rc ∧ (rc = none ∨ ∃ g : Addr, rc = some (.ref g))
/-- a built-in type beside it -/
structure BinT (K : PySem.W.Frag) (op : Operator) (C : Addr) (T : String) : Prop where
  h1 : ∃ fo, findIn K (.type T) (PySem.dunder op.info.2) = some fo
  h2 : ∃ ro, findIn K (.type T) (dunderR op.info.2) = some ro
  hs : subIn K (.type T) (.ref C) = some false
def Beside (K : PySem.W.Frag) (op : Operator) (C : Addr) (t : Value) : Prop := t = .ref C ∨ ∃ T, t = .type T ∧ BinT K op C T
section
variable {prog : Program} {w : World} {A : Around} {E : Value → Shared → Prop} {s : Shared} {K : PySem.W.Frag} {x C f : Addr} {ox : Obj} {od : Option Obj}
theorem bin_left {op : Operator} {b t : Value} {Q : Value → Shared → Prop} (X : K.In s.heap) (I : InstAt s.heap x ox C od) (hb : Looks (model prog w) s.heap (typeOf b) t) (B : Bin K op C f) (hT : Beside K op C t)
    (h : wpAny (model prog w) A (call (.ref f) [.ref x, b]) (PySem.W.CmpBack Q) E s) : wpAny (model prog w) A (binaryOp op (.ref x) b) Q E s := by
  obtain ⟨cd, rest, hcd, hm⟩ := PySem.W.ksp_first B.hc
  obtain ⟨rc, hrc, hrp⟩ := B.hr
  have hs := B.hs
  rcases hi : op.info with ⟨sym, nm⟩
  rw [hi] at hs hrc
  dsimp only at hs hrc
  have one := PySem.W.ksp_try X I hs B.hf h
  rcases hT with e | ⟨T, e, BT⟩
  · subst e
    obtain ⟨hh, g, d, tt, os⟩ := s
    have la : Looks (model prog w) hh (typeOf (.ref x)) (.ref C) := I.type
    have lf : Looks (model prog w) hh (fillsNumberSlot (.ref C) nm) true := PySem.W.fills_K X hcd hm hs
    simp only [binaryOp, hi]
    refine wpAny_holding (wpAny_bind ?_)
    unfold binaryOp1
    refine wpAny_bind (la.at (wpAny_bind (hb.at (wpAny_bind (lf.at ?_)))))
    simp only [beq_self_eq_true, if_true]
    ksp_lk
    refine wpAny_mono one (fun r s' hr' => ?_) fun _ _ e => e
    obtain ⟨v, rfl, hq⟩ := hr'
    ksp_lk
    exact hq
  · subst e
    obtain ⟨fo, h1⟩ := BT.h1
    obtain ⟨ro, h2⟩ := BT.h2
    have hsub := BT.hs
    rw [hi] at h1 h2
    dsimp only at h1 h2
    obtain ⟨hh, g, d, tt, os⟩ := s
    have la : Looks (model prog w) hh (typeOf (.ref x)) (.ref C) := I.type
    have lf : Looks (model prog w) hh (fillsNumberSlot (.ref C) nm) true := PySem.W.fills_K X hcd hm hs
    have lg : Looks (model prog w) hh (fillsNumberSlot (.type T) nm) ((fo.isSome && !isSeqSlot fo) || (ro.isSome && !isSeqSlot ro)) := PySem.W.ksp_fillsT X h1 h2
    have lsub : Looks (model prog w) hh (isSubtype (.type T) (.ref C)) false := looks_subIn X hsub
    have lpy : Looks (model prog w) hh (numberSlotInPython (.ref C) nm) true := PySem.W.ksp_inPy X hs hrc hrp
    have lpt : Looks (model prog w) hh (numberSlotInPython (.type T) nm) false := Looks.of_pure rfl
    have ltk : Looks (model prog w) hh (typeLookup (.type T) (dunderR nm)) ro := looks_findIn X h2
    generalize ((fo.isSome && !isSeqSlot fo) || (ro.isSome && !isSeqSlot ro)) = right at lg
    have hne : (Value.ref C == Value.type T) = false := Bool.eq_false_iff.mpr fun q => by cases beq_iff_eq.mp q
    simp only [binaryOp, hi]
    refine wpAny_holding (wpAny_bind ?_)
    unfold binaryOp1
    refine wpAny_bind (la.at (wpAny_bind (hb.at (wpAny_bind (lf.at ?_)))))
    simp only [hne, Bool.false_eq_true, if_false]
    cases right with
    | false =>
      ksp_lk
      refine wpAny_mono one (fun r s' hr' => ?_) fun _ _ e => e
      obtain ⟨v, rfl, hq⟩ := hr'
      ksp_lk
      exact hq
    | true =>
      ksp_lk
      refine wpAny_mono one (fun r s' hr' => ?_) fun _ _ e => e
      obtain ⟨v, rfl, hq⟩ := hr'
      ksp_lk
      exact hq
end

/-! the readings -/
section
variable {X : Cx} {pins : List (Addr × Obj)} {σ : L2.St} {H : Hp} {s : Shared} {k : Nat} {f C : Addr} {ps : List Str} {sp : Sp} {E : XK} {Q : VK}
/-- behind a call of an own operator's def -/
theorem cmpBack_of {u : Value} {s' : Shared} (h : EP X pins σ Q u s') : PySem.W.CmpBack (EP X pins σ Q) u s' := by
  obtain ⟨v, H', I, r, q⟩ := id h
  cases v with
  | non => cases r; exact h
  | bl b => cases r; exact h
  | int i => obtain ⟨_, rfl⟩ := r; exact h
  | str z => obtain ⟨_, rfl⟩ := r; exact h
  | byt b => obtain ⟨_, rfl⟩ := r; exact h
  | flt b => obtain ⟨_, rfl⟩ := r; exact h
  | ref a => cases r; exact h
  | ty n => cases r; exact h
def rOwn (K : PySem.W.Frag) (op : Operator) (C : Addr) (sp : Sp) (E : XK) : R2 := fun x y H Q => ∃ a dx fs t, x = .ref a ∧ H a = some (.ins C dx fs) ∧ Kd H y t ∧ Beside K op C t ∧ sp [x, y] H Q E
theorem op_own {op : Operator} (D : Dn X.prog X.w X.K X.mg X.base k f ps sp) (B : Bin X.K op C f) (hr : Room k X.A) (hx : Passes (L2.CX X.prog X.w) X E) : OpR X (binaryOp op) (rOwn X.K op C sp E) := by
  intro pins s σ H x y v u Q I rx ry h
  obtain ⟨a, dx, fs, t, rfl, ha, kd, bs, q⟩ := h
  cases rx
  obtain ⟨fd, F, b⟩ := D.ex
  obtain ⟨mA, J, _⟩ := ins_get I.hok ha
  obtain ⟨od, J, _⟩ := J.look
  refine bin_left I.kIn J (kd.looks I ry) B bs ?_
  exact thn (run_fn (us := [.ref a, u]) (vs := [.ref a, y]) F hr b .nil hx I (.cons rfl (.cons ry .nil)) q) fun v s' z => cmpBack_of z
/-- a comparison by an own def -/
structure Cmp (K : PySem.W.Frag) (op : CmpOp) (C f : Addr) : Prop where
  hs : findIn K (.ref C) (cmpInfo op).2.1 = some (some (.ref f))
  hf : isFn K (.ref f) = true
def rCmp (K : PySem.W.Frag) (C : Addr) (sp : Sp) (E : XK) : R2 := fun x y H Q => ∃ a dx fs t, x = .ref a ∧ H a = some (.ins C dx fs) ∧ Kd H y t ∧ notFirst K C t = true ∧ sp [x, y] H Q E
theorem rich_own {op : CmpOp} (D : Dn X.prog X.w X.K X.mg X.base k f ps sp) (B : Cmp X.K op C f) (hr : Room k X.A) (hx : Passes (L2.CX X.prog X.w) X E) : OpR X (richCompare op) (rCmp X.K C sp E) := by
  intro pins s σ H x y v u Q I rx ry h
  obtain ⟨a, dx, fs, t, rfl, ha, kd, bs, q⟩ := h
  cases rx
  obtain ⟨fd, F, b⟩ := D.ex
  obtain ⟨mA, J, _⟩ := ins_get I.hok ha
  obtain ⟨od, J, _⟩ := J.look
  obtain ⟨m, hF⟩ := I.fr
  refine PySem.W.cmp_K (op := op) hr.units0 hF I.ok.mod.kin J (kd.looks I ry) bs B.hs B.hf ?_
  exact thn (run_fn (us := [.ref a, u]) (vs := [.ref a, y]) F hr b .nil hx I (.cons rfl (.cons ry .nil)) q) fun v s' z => cmpBack_of z
theorem cmp_lt (D : Dn X.prog X.w X.K X.mg X.base k f ps sp) (B : Cmp X.K .Lt C f) (hr : Room k X.A) (hx : Passes (L2.CX X.prog X.w) X E) : OpR X (compareOp .Lt) (rCmp X.K C sp E) := rich_own D B hr hx
theorem cmp_le (D : Dn X.prog X.w X.K X.mg X.base k f ps sp) (B : Cmp X.K .LtE C f) (hr : Room k X.A) (hx : Passes (L2.CX X.prog X.w) X E) : OpR X (compareOp .LtE) (rCmp X.K C sp E) := rich_own D B hr hx
theorem cmp_gt (D : Dn X.prog X.w X.K X.mg X.base k f ps sp) (B : Cmp X.K .Gt C f) (hr : Room k X.A) (hx : Passes (L2.CX X.prog X.w) X E) : OpR X (compareOp .Gt) (rCmp X.K C sp E) := rich_own D B hr hx
theorem cmp_ge (D : Dn X.prog X.w X.K X.mg X.base k f ps sp) (B : Cmp X.K .GtE C f) (hr : Room k X.A) (hx : Passes (L2.CX X.prog X.w) X E) : OpR X (compareOp .GtE) (rCmp X.K C sp E) := rich_own D B hr hx
theorem cmp_eq (D : Dn X.prog X.w X.K X.mg X.base k f ps sp) (B : Cmp X.K .Eq C f) (hr : Room k X.A) (hx : Passes (L2.CX X.prog X.w) X E) : OpR X (compareOp .Eq) (rCmp X.K C sp E) := rich_own D B hr hx
end

/-! properties and methods -/
section
variable {X : Cx} {k : Nat} {f C : Addr} {ps : List Str} {sp : Sp} {E : XK} {x m : Str} {p pos apos : Pos} {e o : Expr} {es : List Expr} {ta : TE} {t : TA}
structure Rn (P : Program) (w : World) (K : PySem.W.Frag) (mg : Str → Option Value) (base : Heap) (k : Nat) (C : Addr) (m : Str) (sp : Sp) : Prop where
  ex : ∃ p g fd ps, PropOf K C m p g ∧ FnOk P w K mg base (L2.CX P w) k g fd ps sp ∧ Binds K fd ps []
  cl : Cls K C
theorem pe_pr (D : Rn X.prog X.w X.K X.mg X.base k C m sp) (hr : Room (k + 1) X.A) (he : PE X e ta) (hab : attributeBase e m X.env (eval e X.env) = eval e X.env := by rfl) : PE X (.Attribute e m pos) (tProp C sp [] E0 ta) := by
  obtain ⟨p, g, fd, ps, hp, F, b⟩ := D.ex
  exact pe_prop he D.cl hp F hr b .nil passL hab
structure Hn (P : Program) (w : World) (K : PySem.W.Frag) (mg : Str → Option Value) (base : Heap) (k : Nat) (C : Addr) (m : Str) (sp : Sp) : Prop where
  ex : ∃ f fd ps, FnOk P w K mg base (L2.CX P w) k f fd ps sp ∧ Binds K fd ps [] ∧ Meth K C m f
  cl : Cls K C
theorem pe_dm {pl : Sem Bool} (D : Hn X.prog X.w X.K X.mg X.base k C m sp) (hr : Room k X.A) (hx : Passes (L2.CX X.prog X.w) X E) (he : PE X o ta) (ha : PA X (e :: es) t)
    (hst : starEach (e :: es) X.env = (false, eval e X.env) :: starEach es X.env := by rfl) (hpl : (backTo pos (starEach es X.env)).any (·.1) = false := by rfl)
    (ht : eval (.Call (.Attribute o m apos) (e :: es) [] pos) X.env = (do
      let ov ← eval o X.env
      standAt apos.atName
      let (f, first) ← holding [ov] (getMethod ov m pl)
      callWith pos f first (backTo pos (starEach (e :: es) X.env)) (backToKw pos (keywordEach [] X.env))) := by rfl) :
    PE X (.Call (.Attribute o m apos) (e :: es) [] pos) (tMeth C m sp [] E ta t) := by
  obtain ⟨f, fd, ps, F, b, M⟩ := D.ex
  exact pe_meth he D.cl M F hr b .nil hx ha hst hpl ht
theorem pe_dm0 {pl : Sem Bool} (D : Hn X.prog X.w X.K X.mg X.base k C m sp) (hr : Room k X.A) (hx : Passes (L2.CX X.prog X.w) X E) (he : PE X o ta)
    (ht : eval (.Call (.Attribute o m apos) [] [] pos) X.env = (do
      let ov ← eval o X.env
      standAt apos.atName
      let (f, first) ← holding [ov] (getMethod ov m pl)
      callWith pos f first (backTo pos (starEach [] X.env)) (backToKw pos (keywordEach [] X.env))) := by rfl) :
    PE X (.Call (.Attribute o m apos) [] [] pos) (tMeth C m sp [] E ta tNil) := by
  obtain ⟨f, fd, ps, F, b, M⟩ := D.ex
  exact pe_meth0 he D.cl M F hr b .nil hx ht
end

/-! steps -/
def kProp (C : Addr) (sp : Sp) (E : XK) (Q : VK) (x : V) (H : Hp) : Prop := ∃ a dx fs, x = .ref a ∧ H a = some (.ins C dx fs) ∧ sp [x] H Q E
def kMeth (C : Addr) (m : Str) (sp : Sp) (E : XK) (t : TA) (σ : L2.St) (Q : VK) (x : V) (H : Hp) : Prop := ∃ a dx fs, x = .ref a ∧ H a = some (.ins C dx fs) ∧ fs.lookup m = none ∧ t σ H fun vs H2 => sp (x :: vs) H2 Q E
def kMake (C : Addr) (sp : Sp) (E : XK) (Q : VK) (vs : List V) (H : Hp) : Prop := ∀ x dx, H x = none → H dx = none → dx ≠ x → sp (.ref x :: vs) (upd (upd H dx (.own x)) x (.ins C dx [])) (fun v H2 => v = .non ∧ Q (.ref x) H2) E
section
variable {σ : L2.St} {H : Hp} {Q : VK} {ta : TE} {tr : TA} {C a dx : Addr} {fs : List (Str × V)} {m : Str} {sp : Sp} {E : XK} {y : V} {K : PySem.W.Frag} {op : Operator} {t : Value}
theorem g_prop (h : ta σ H (kProp C sp E Q)) : tProp C sp [] E ta σ H Q := by
  have e : (fun (x : V) (H1 : Hp) => ∃ a dx fs, x = .ref a ∧ H1 a = some (.ins C dx fs) ∧ sp (.ref a :: []) H1 Q E) = kProp C sp E Q := by
    funext x H1
    refine propext ⟨fun ⟨a, dx, fs, e, h, q⟩ => ⟨a, dx, fs, e, h, by rw [e]; exact q⟩, fun ⟨a, dx, fs, e, h, q⟩ => ⟨a, dx, fs, e, h, by rw [← e]; exact q⟩⟩
  show ta σ H _
  rw [e]; exact h
theorem g_kprop (ho : H a = some (.ins C dx fs)) (q : sp [.ref a] H Q E) : kProp C sp E Q (.ref a) H := ⟨a, dx, fs, rfl, ho, q⟩
theorem g_meth (h : ta σ H (kMeth C m sp E tr σ Q)) : tMeth C m sp [] E ta tr σ H Q := by
  have e : (fun (x : V) (H1 : Hp) => ∃ a dx fs, x = .ref a ∧ H1 a = some (.ins C dx fs) ∧ fs.lookup m = none ∧ tr σ H1 fun vs H2 => sp (x :: (vs ++ [])) H2 Q E) = kMeth C m sp E tr σ Q := by
    funext x H1
    simp only [List.append_nil]
    rfl
  show ta σ H _
  rw [e]; exact h
theorem g_kmeth (ho : H a = some (.ins C dx fs)) (hl : fs.lookup m = none) (q : tr σ H fun vs H2 => sp (.ref a :: vs) H2 Q E) : kMeth C m sp E tr σ Q (.ref a) H := ⟨a, dx, fs, rfl, ho, hl, q⟩
theorem g_make (h : tr σ H (kMake C sp E Q)) : tMake C sp [] E tr σ H Q := by
  have e : (fun (vs : List V) (H1 : Hp) => ∀ x dx, H1 x = none → H1 dx = none → dx ≠ x → sp (.ref x :: (vs ++ [])) (upd (upd H1 dx (.own x)) x (.ins C dx [])) (fun v H2 => v = .non ∧ Q (.ref x) H2) E) = kMake C sp E Q := by
    funext vs H1
    simp only [List.append_nil]
    rfl
  show tr σ H _
  rw [e]; exact h
theorem g_own (ho : H a = some (.ins C dx fs)) (kd : Kd H y t) (b : Beside K op C t) (q : sp [.ref a, y] H Q E) : rOwn K op C sp E (.ref a) y H Q := ⟨a, dx, fs, t, rfl, ho, kd, b, q⟩
theorem g_cmp (ho : H a = some (.ins C dx fs)) (kd : Kd H y t) (b : notFirst K C t = true) (q : sp [.ref a, y] H Q E) : rCmp K C sp E (.ref a) y H Q := ⟨a, dx, fs, t, rfl, ho, kd, b, q⟩
end
end AF
/-! an own operator on the right of an int; != by an own == -/
namespace AF
open PySem PySem.Spec PyProof.Rows L2
open PySem.W (Looks InstAt findIn isFn subIn selfFirst notFirst looks_findIn looks_subIn)

def Declines (y : Addr) : PySem.Spec := fun _ R s => (∃ C dx, s.heap.get? y = some (PySem.W.instObj C dx)) ∧ R (.ok (.ret .notImplemented)) s
theorem add_declines (i : Int) (t : Tok) (y : Addr) : Meets (Builtin.«int.__add__» ⟨[.int i t, .ref y], []⟩) (Declines y) :=
  .of_wp fun prog w A R s h => by
    obtain ⟨hp, g, d, tk, os⟩ := s
    obtain ⟨⟨C, dx, hl⟩, h⟩ := h
    unfold PySem.W.instObj at hl
    wp_walk using AutoSeq1.wpAny_loadPart' hl
    exact ⟨_, rfl, h⟩
theorem sub_declines (i : Int) (t : Tok) (y : Addr) : Meets (Builtin.«int.__sub__» ⟨[.int i t, .ref y], []⟩) (Declines y) :=
  .of_wp fun prog w A R s h => by
    obtain ⟨hp, g, d, tk, os⟩ := s
    obtain ⟨⟨C, dx, hl⟩, h⟩ := h
    unfold PySem.W.instObj at hl
    wp_walk using AutoSeq1.wpAny_loadPart' hl
    exact ⟨_, rfl, h⟩
structure BinR (K : PySem.W.Frag) (op : Operator) (C f : Addr) : Prop where
  hc : selfFirst K C = true
  hs : ∃ g : Addr, findIn K (.ref C) (PySem.dunder op.info.2) = some (some (.ref g))
  hr : findIn K (.ref C) (dunderR op.info.2) = some (some (.ref f))
  hf : isFn K (.ref f) = true
  hb : subIn K (.ref C) (.type "int") = some false
section
variable {prog : Program} {w : World} {A : Around} {E : Value → Shared → Prop} {s : Shared} {K : PySem.W.Frag} {y C f : Addr} {oy : Obj} {od : Option Obj}
/-- an int's own method declines, the right one's is taken -/
theorem bin_right {op : Operator} {i : Int} {t : Tok} {id : String} {Bl : Builtin} {Q : Value → Shared → Prop} (X : K.In s.heap) (I : InstAt s.heap y oy C od) (B : BinR K op C f) (sl : Slot "int" (PySem.dunder op.info.2) id) (fi : fillsNumberSlot (.type "int") op.info.2 = pure true)
    (en : entryFor table id = some Bl) (ar : argsOk id ⟨[.int i t, .ref y], []⟩) (de : Meets (Bl ⟨[.int i t, .ref y], []⟩) (Declines y)) (hy : ∃ C dx, s.heap.get? y = some (PySem.W.instObj C dx))
    (h : wpAny (model prog w) A (call (.ref f) [.ref y, .int i t]) (PySem.W.CmpBack Q) E s) : wpAny (model prog w) A (binaryOp op (.int i t) (.ref y)) Q E s := by
  obtain ⟨cd, rest, hcd, hm⟩ := PySem.W.ksp_first B.hc
  obtain ⟨g', hs⟩ := B.hs
  have hr := B.hr
  rcases hi : op.info with ⟨sym, nm⟩
  rw [hi] at hs hr sl fi
  dsimp only at hs hr sl fi
  have one := PySem.W.ksp_try X I hr B.hf h
  have none1 : wpAny (model prog w) A (tryMethod (.int i t) (PySem.dunder nm) (.ref y)) (fun r s' => r = none ∧ s' = s) E s :=
    wpAny_tryMethod_declines (typeIs_int _ _ _) sl (call_meets sl (typeIs_int _ _ _) en ar de ⟨hy, rfl, rfl, rfl⟩)
  obtain ⟨hh, g, d, tt, os⟩ := s
  have la : Looks (model prog w) hh (typeOf (.int i t)) (.type "int") := Looks.of_pure rfl
  have lb : Looks (model prog w) hh (typeOf (.ref y)) (.ref C) := I.type
  have lf : Looks (model prog w) hh (fillsNumberSlot (.type "int") nm) true := Looks.of_pure fi
  have lg : Looks (model prog w) hh (fillsNumberSlot (.ref C) nm) true := PySem.W.fills_K X hcd hm hs
  have lsub : Looks (model prog w) hh (isSubtype (.ref C) (.type "int")) false := looks_subIn X B.hb
  have lpt : Looks (model prog w) hh (numberSlotInPython (.type "int") nm) false := Looks.of_pure rfl
  have hne : (Value.type "int" == Value.ref C) = false := Bool.eq_false_iff.mpr fun q => by cases beq_iff_eq.mp q
  simp only [binaryOp, hi]
  refine wpAny_holding (wpAny_bind ?_)
  unfold binaryOp1
  refine wpAny_bind (la.at (wpAny_bind (lb.at (wpAny_bind (lf.at ?_)))))
  simp only [hne, Bool.false_eq_true, if_false]
  ksp_lk
  refine wpAny_mono none1 (fun r s' hr' => ?_) fun _ _ e => e
  obtain ⟨rfl, rfl⟩ := hr'
  ksp_lk
  refine wpAny_mono one (fun r s' hr' => ?_) fun _ _ e => e
  obtain ⟨v, rfl, hq⟩ := hr'
  ksp_lk
  exact hq
end

/-! != by an own == -/
structure NeC (K : PySem.W.Frag) (C f : Addr) : Prop where
  hn : findIn K (.ref C) "__ne__" = some (some (.builtin "object.__ne__"))
  hs : findIn K (.ref C) "__eq__" = some (some (.ref f))
  hf : isFn K (.ref f) = true
  ho : PySem.W.mroIn K C (.type "object") = some true
theorem slot_objne : Slot "object" "__ne__" "object.__ne__" :=
  .of (owner := "object") (n := "__ne__") (by rw [typeLookup_type, builtinLookup_eq_fast]; kernel_rfl) (by decide +kernel) (by decide +kernel) (by decide +kernel) (.inl (by decide +kernel)) (by rw [isSubtype_type]; kernel_rfl)
section
variable {prog : Program} {w : World} {A : Around} {E : Value → Shared → Prop} {K : PySem.W.Frag} {x C f : Addr} {ox : Obj} {od : Option Obj}
theorem objne_body {b : Value} {hh : Heap} {g : Array GenState} {d : Drawn} {tt : Nat} {os : OsState} {Q : Fin → Shared → Prop} (hu : A.units < cLine)
    (h : wpAny (model prog w) A (callSpecialIfBound? (.ref x) "__eq__" [b]) (fun r s' => ∃ k, r = some (.bool k) ∧ Q (.done (.ret (.bool (!k)))) s') E ⟨hh, g, d, tt, os⟩) :
    wpAny (model prog w) A (Builtin.«object.__ne__» ⟨[.ref x, b], []⟩) Q E ⟨hh, g, d, tt, os⟩ := by
  unfold Builtin.«object.__ne__»
  repeat (first | with_reducible refine wpAny_cRoomFor hu ?_ | (with_reducible refine wpAny_mono h (fun r s' hr => ?_) fun _ _ e => e) | wp_step)
  obtain ⟨k, rfl, q⟩ := hr
  obtain ⟨hp, g, d, tk, os⟩ := s'
  repeat wp_step
  exact q
theorem rich_ne {b t : Value} {hh : Heap} {g : Array GenState} {d : Drawn} {tt : Nat} {os : OsState} {Q : Value → Shared → Prop} (hu : A.units + 1 < cLine) (X : K.In hh) (I : InstAt hh x ox C od) (hb : Looks (model prog w) hh (typeOf b) t)
    (hn : notFirst K C t = true) (B : NeC K C f) (h : wpAny (model prog w) A.in1 (call (.ref f) [.ref x, b]) (fun v s' => ∃ k, v = .bool k ∧ Q (.bool (!k)) s') E ⟨hh, g, d, tt, os⟩) :
    wpAny (model prog w) A (richCompare .NotEq (.ref x) b) Q E ⟨hh, g, d, tt, os⟩ := by
  have hu0 : A.units < cLine := Nat.lt_of_succ_lt hu
  have call2 : wpAny (model prog w) A (call (.builtin "object.__ne__") [.ref x, b]) (fun v s' => v ≠ .notImplemented ∧ Q v s') E ⟨hh, g, d, tt, os⟩ := by
    refine wpAny_call (codeAny_call_builtin slot_objne.plain PySem.F.cmpEntry_ne (@PySem.W.check_slot (model prog w) _ _ ⟨hh, g, d, tt, os⟩ "object.__ne__" "object" "__ne__" (.ref x) [b] [] _ PySem.F.cmpKind_ne PySem.F.cmpSplit_ne
      (I.type.andThen (PySem.W.looks_mroIn X B.ho)) (PySem.F.cmpArgs_ne _ _) ?_))
    refine objne_body (show A.in1.units < cLine from hu) (PySem.W.ifBound_K X I B.hs B.hf (wpAny_mono h (fun v s' z => ?_) fun _ _ e => e))
    obtain ⟨k, rfl, q⟩ := z
    exact ⟨k, rfl, (fun z => nomatch z), q⟩
  have one : wpAny (model prog w) A (tryCompare (.ref x) "__ne__" b) (fun r s' => ∃ v, r = some v ∧ Q v s') E ⟨hh, g, d, tt, os⟩ := by
    have lt : Looks (model prog w) hh (typeLookup (.ref C) "__ne__") (some (.builtin "object.__ne__")) := looks_findIn X B.hn
    have fin : wpAny (model prog w) A (call (.builtin "object.__ne__") ([.ref x] ++ [b]) >>= fun v => pure (some v)) (fun r s' => ∃ v, r = some v ∧ v ≠ .notImplemented ∧ Q v s') E ⟨hh, g, d, tt, os⟩ :=
      wpAny_bind (wpAny_mono call2 (fun v s' h' => wpAny_pure ⟨v, rfl, h'⟩) fun _ _ h' => h')
    have sp : wpAny (model prog w) A (callSpecialIfBound? (.ref x) "__ne__" [b]) (fun r s' => ∃ v, r = some v ∧ v ≠ .notImplemented ∧ Q v s') E ⟨hh, g, d, tt, os⟩ := by
      simp only [callSpecialIfBound?, bindSpecialIfBound?]
      refine wpAny_holding (wpAny_bind (wpAny_bind (wpAny_bind (I.type.here (lt.here ?_)))))
      simp only [slot_objne.bind]
      refine wpAny_bind (wpAny_askSetting (wpAny_ite ?_))
      split
      · exact wpAny_bind (wpAny_pure (wpAny_pure fin))
      · exact wpAny_tryCatch (wpAny_bind (wpAny_pure (wpAny_pure fin)))
    unfold tryCompare
    refine wpAny_bind (wpAny_mono sp (fun r s' z => ?_) fun _ _ e => e)
    obtain ⟨v, rfl, hv, q⟩ := z
    cases v <;> first | exact absurd rfl hv | exact wpAny_pure ⟨_, rfl, q⟩
  unfold richCompare
  simp only [oneThing_ref, cmpInfo_NotEq]
  refine wpAny_holding (wpAny_bind (wpAny_cRoomFor hu0 ?_))
  refine wpAny_bind (I.type.here (wpAny_bind (hb.here ?_)))
  split
  · rename_i q
    have e : subIn K t (.ref C) = some false := by
      rcases Bool.or_eq_true_iff.mp hn with e | e
      · rw [beq_iff_eq.mp e] at q; simp at q
      · exact beq_iff_eq.mp e
    refine wpAny_bind ((looks_subIn X e).here ?_)
    simp only [Bool.false_eq_true, if_false]
    refine wpAny_bind (wpAny_mono one (fun r s' z => ?_) fun _ _ e => e)
    obtain ⟨v, rfl, hq⟩ := z
    exact wpAny_pure hq
  · refine wpAny_bind (wpAny_pure ?_)
    simp only [Bool.false_eq_true, if_false]
    refine wpAny_bind (wpAny_mono one (fun r s' z => ?_) fun _ _ e => e)
    obtain ⟨v, rfl, hq⟩ := z
    exact wpAny_pure hq
end

section
variable {X : Cx} {pins : List (Addr × Obj)} {σ : L2.St} {H : Hp} {s : Shared} {k : Nat} {f C : Addr} {ps : List Str} {sp : Sp} {E : XK} {Q : VK}
def rRight (C : Addr) (sp : Sp) (E : XK) : R2 := fun x y H Q => ∃ i a dx fs, x = .int i ∧ y = .ref a ∧ H a = some (.ins C dx fs) ∧ sp [y, x] H Q E
theorem op_right_add (D : Dn X.prog X.w X.K X.mg X.base k f ps sp) (B : BinR X.K .Add C f) (hr : Room k X.A) (hx : Passes (L2.CX X.prog X.w) X E) : OpR X (binaryOp .Add) (rRight C sp E) := by
  intro pins s σ H x y v u Q I rx ry h
  obtain ⟨i, a, dx, fs, rfl, rfl, ha, q⟩ := h
  obtain ⟨t, rfl⟩ := rx
  cases ry
  obtain ⟨fd, F, b⟩ := D.ex
  obtain ⟨_, _, _, hy, _⟩ := (show ObjOk X.prog X.w H s.heap a (.ins C dx fs) from I.hok a _ ha)
  obtain ⟨mA, J, _⟩ := ins_get I.hok ha
  obtain ⟨od, J, _⟩ := J.look
  refine bin_right I.kIn J B PySem.F.slot_int_add PySem.F.fills_int_add PySem.F.entry_int_add (PySem.F.args_int_add_2 _ _) (add_declines _ _ _) ⟨_, _, hy⟩ ?_
  exact thn (run_fn (us := [.ref a, .int i t]) (vs := [.ref a, .int i]) F hr b .nil hx I (.cons rfl (.cons ⟨t, rfl⟩ .nil)) q) fun v s' z => cmpBack_of z
theorem op_right_sub (D : Dn X.prog X.w X.K X.mg X.base k f ps sp) (B : BinR X.K .Sub C f) (hr : Room k X.A) (hx : Passes (L2.CX X.prog X.w) X E) : OpR X (binaryOp .Sub) (rRight C sp E) := by
  intro pins s σ H x y v u Q I rx ry h
  obtain ⟨i, a, dx, fs, rfl, rfl, ha, q⟩ := h
  obtain ⟨t, rfl⟩ := rx
  cases ry
  obtain ⟨fd, F, b⟩ := D.ex
  obtain ⟨_, _, _, hy, _⟩ := (show ObjOk X.prog X.w H s.heap a (.ins C dx fs) from I.hok a _ ha)
  obtain ⟨mA, J, _⟩ := ins_get I.hok ha
  obtain ⟨od, J, _⟩ := J.look
  refine bin_right I.kIn J B PySem.F.slot_int_sub PySem.F.fills_int_sub PySem.F.entry_int_sub (PySem.F.args_int_sub_2 _ _) (sub_declines _ _ _) ⟨_, _, hy⟩ ?_
  exact thn (run_fn (us := [.ref a, .int i t]) (vs := [.ref a, .int i]) F hr b .nil hx I (.cons rfl (.cons ⟨t, rfl⟩ .nil)) q) fun v s' z => cmpBack_of z
theorem g_right {i : Int} {a dx : Addr} {fs : List (Str × V)} (ho : H a = some (.ins C dx fs)) (q : sp [.ref a, .int i] H Q E) : rRight C sp E (.int i) (.ref a) H Q := ⟨i, a, dx, fs, rfl, rfl, ho, q⟩
/-- != : the own == gives a truth, its opposite comes out -/
def rNeq (K : PySem.W.Frag) (C : Addr) (sp : Sp) (E : XK) : R2 := fun x y H Q => ∃ a dx fs t, x = .ref a ∧ H a = some (.ins C dx fs) ∧ Kd H y t ∧ notFirst K C t = true ∧ sp [x, y] H (fun v H' => ∃ b, v = .bl b ∧ Q (.bl (!b)) H') E
theorem cmp_neq (D : Dn X.prog X.w X.K X.mg X.base k f ps sp) (B : NeC X.K C f) (hr : Room (k + 1) X.A) (hx : Passes (L2.CX X.prog X.w) X E) : OpR X (compareOp .NotEq) (rNeq X.K C sp E) := by
  intro pins s σ H x y v u Q I rx ry h
  obtain ⟨a, dx, fs, t, rfl, ha, kd, bs, q⟩ := h
  cases rx
  obtain ⟨fd, F, b⟩ := D.ex
  obtain ⟨mA, J, _⟩ := ins_get I.hok ha
  obtain ⟨od, J, _⟩ := J.look
  have lb := kd.looks (M := model X.prog X.w) I ry
  show wpAny (model X.prog X.w) X.A (richCompare .NotEq (.ref a) u) (EP X pins σ Q) X.xe s
  have hl := F.len _ _ _ _ q
  have rv : Vals [V.ref a, y] [Value.ref a, u] := .cons rfl (.cons ry .nil)
  have run : wpAny (model X.prog X.w) X.A.in1 (call (.ref f) [.ref a, u]) (fun v s' => ∃ k, v = .bool k ∧ EP X pins σ Q (.bool (!k)) s') X.xe s := by
    refine wpAny_call (codeAny_mono (F.run X.A.in1 X.stack s H ⟨[.ref a, u], []⟩ [.ref a, u] [.ref a, y] _ E hr.in1 I.env0.in1 (by
      have := b s [.ref a, u] I.kIn (by simpa using hl)
      simpa using this) rv q) fun r s' hq => ?_)
    cases r with
    | error e => exact hx pins σ H s e s' I hq
    | ok fl =>
      cases fl with
      | ret w =>
        obtain ⟨z, H', I', rz, b', ez, q'⟩ := I.after hq
        subst ez
        cases rz
        exact ⟨b', rfl, .bl (!b'), H', I', rfl, q'⟩
      | next => exact False.elim hq
      | brk => exact False.elim hq
      | cont => exact False.elim hq
  obtain ⟨hh, g, d, tt, os⟩ := s
  exact rich_ne (hu_of hr) I.kIn J lb bs B run
theorem g_neq {a dx : Addr} {fs : List (Str × V)} {y : V} {t : Value} {K : PySem.W.Frag} (ho : H a = some (.ins C dx fs)) (kd : Kd H y t) (b : notFirst K C t = true) (q : sp [.ref a, y] H (kNot Q) E) : rNeq K C sp E (.ref a) y H Q :=
  ⟨a, dx, fs, t, rfl, ho, kd, b, q⟩
end
end AF
/-! further steps -/
namespace AF
open PySem PySem.Spec PyProof.Rows L2
def kChain (r' : R2) (tc : TE) (σ : L2.St) (y : V) (Q : VK) (z : V) (H : Hp) : Prop := ∃ k, z = .bl k ∧ (if k = true then tc σ H fun w' H4 => r' y w' H4 Q else Q (.bl false) H)
section
variable {σ : L2.St} {H : Hp} {Q : VK} {ta tb tc : TE} {r r' : R2} {x y c : V} {K : PySem.W.Frag} {t u : Value} {b k : Bool}
theorem g_chain (h : ta σ H fun x H1 => tb σ H1 fun y H2 => r x y H2 (kChain r' tc σ y Q)) : tChain r r' ta tb tc σ H Q := h
theorem g_kchain (q : if k = true then tc σ H fun w' H4 => r' y w' H4 Q else Q (.bl false) H) : kChain r' tc σ y Q (.bl k) H := ⟨k, rfl, q⟩
theorem g_isi (cv : ClsV c u) (ty : TyX K H x t) (e : PySem.W.kitOne K t u = some b) (q : Q (.bl b) H) : rIsi K [x, c] H Q := ⟨x, c, t, u, b, rfl, cv, ty, e, q⟩
theorem dp_int {i j : Int} (h : i = j) : Dp K H (.int i) (.int j) := by rw [h]; exact .int j
theorem dp_bl {i j : Bool} (h : i = j) : Dp K H (.bl i) (.bool j) := by rw [h]; exact .bl j
theorem dp_lst {a : Addr} {xs : List V} {ds : List PyData} (h : H a = some (.lst xs)) (q : DpAll K H xs ds) : Dp K H (.ref a) (.list ds) := .lst (SqL.of h) q
theorem dp_tup {a : Addr} {xs : List V} {ds : List PyData} (h : H a = some (.tup xs)) (q : DpAll K H xs ds) : Dp K H (.ref a) (.tuple ds) := .tup (.inl (.inl h)) q
theorem eqv_self {d : PyData} (s : SeqAt.shaped d = true) : PyData.eqv d d = true := SeqAt.eqv_refl_plain d (PySem.PyData.plain_of_canLay0 d (SeqAt.canLay_of_shaped s))
theorem g_neD {d : PyData} (hx : Dp K H x d) (hy : Dp K H y d) (s : SeqAt.shaped d = true) (q : Q (.bl false) H) : rNeD K x y H Q := ⟨d, d, hx, hy, s, s, by rw [eqv_self s]; exact q⟩
theorem g_eqD {d : PyData} (hx : Dp K H x d) (hy : Dp K H y d) (s : SeqAt.shaped d = true) (q : Q (.bl true) H) : rEqD K x y H Q := ⟨d, d, hx, hy, s, s, by rw [eqv_self s]; exact q⟩
end
/-- a new instance comes out, all else stays -/
def New (C : Addr) (fs : List (Str × V)) (H : Hp) (Q : VK) : Prop := ∀ x dx H', H x = none → Ch [] H H' → H' x = some (.ins C dx fs) → Q (.ref x) H'
theorem g_new {H0 : Hp} {M : Addr → Prop} {H : Hp} {l : List Ent} {C : Addr} {fs : List (Str × V)} {Q : VK} (S : Sh H0 M H l) (q : ∀ x dx H', Sh H0 M H' ((x, .ins C dx fs, true) :: l) → Q (.ref x) H') : New C fs H Q :=
  fun x dx H' hn c h => q x dx H' (S.add c hn h)
/-- an object is being made by its __init__ -/
theorem g_kmake {H0 : Hp} {M : Addr → Prop} {H : Hp} {l : List Ent} {C : Addr} {sp : Sp} {E : XK} {Q : VK} {vs : List V} {fs : List (Str × V)} (S : Sh H0 M H l)
    (h : ∀ (x dx : Addr) (H1 : Hp) (Q' : VK), H1 x = some (.ins C dx []) → (∀ H2, Ch [x] H1 H2 → H2 x = some (.ins C dx fs) → Q' .non H2) → sp (.ref x :: vs) H1 Q' E)
    (q : ∀ x dx H', Sh H0 M H' ((x, .ins C dx fs, true) :: l) → Q (.ref x) H') : kMake C sp E Q vs H := by
  intro x dx hx hd ne
  have S1 := (S.new (o := .own x) hd).new (p := x) (o := .ins C dx []) (by rw [upd_ne (Ne.symm ne)]; exact hx)
  refine h x dx _ _ (S1.has_ .here) fun H2 c h2 => ⟨rfl, q x dx H2 ?_⟩
  have S2 := S1.ch1 .here c h2
  refine ⟨S2.fr, fun e he => ?_, ?_, fun e he hm => ?_⟩
  · rcases List.mem_cons.mp he with z | z
    · exact S2.has e (z ▸ List.mem_cons_self)
    · exact S2.has e (List.mem_cons_of_mem _ (List.mem_cons_of_mem _ z))
  · have ap := S2.ap
    simp only [List.map_cons, List.pairwise_cons] at ap ⊢
    exact ⟨fun t ht => ap.1 t (List.mem_cons_of_mem _ ht), ap.2.2⟩
  · rcases List.mem_cons.mp he with z | z
    · exact S2.mu e (z ▸ List.mem_cons_self) hm
    · exact S2.mu e (List.mem_cons_of_mem _ (List.mem_cons_of_mem _ z)) hm
end AF
/-! loops over a range, items at an open place -/
namespace AF
open PySem PySem.Spec PyProof.Rows L2
def kR1 (P : Int → Hp → Prop) (vs : List V) (H : Hp) : Prop := ∃ j : Int, vs = [.int j] ∧ -(2 ^ 62) ≤ j ∧ j < 2 ^ 62 ∧ P j H
/-- a loop over a range of n turns -/
def Loop (n : Nat) (g : TG) (tb : TS) (D : Ends) (σ : L2.St) (H : Hp) : Prop := ∃ W : Nat → Nat → L2.St → Hp → Prop, (∃ m, W 0 m σ H) ∧ ∀ i m σ H, W i m σ H →
  ((Itr 0 n).stop i H ∧ D.nx σ H) ∨ ((Itr 0 n).go i H ∧ ∃ N : L2.St → Hp → Prop, (∀ σ' H', N σ' H' → ∃ m', m' < m ∧ W (i + 1) m' σ' H') ∧ ∀ x H', (Itr 0 n).yld i H x H' → g x σ H' fun σ2 H2 => tb { D with nx := N, ct := N, bk := D.nx } σ2 H2)
section
variable {σ σ' : L2.St} {H : Hp} {Q : VK} {i j : Int} {x y v : V} {K : PySem.W.Frag} {p : Addr} {xs : List V} {ta : TA} {tb : TS} {g : TG} {D : Ends}
theorem g_for1 (h : ta σ H (kR1 fun j H1 => Loop j.toNat g tb D σ H1)) : tFor (iRng1 ta) g tb D σ H := h
theorem g_kR1 {P : Int → Hp → Prop} (h1 : -(2 ^ 62) ≤ j) (h2 : j < 2 ^ 62) (q : P j H) : kR1 P [.int j] H := ⟨j, rfl, h1, h2, q⟩
theorem g_loop {n k : Nat} {nx : L2.St → Hp → Prop} {rt : VK} {bk ct : L2.St → Hp → Prop} (Pv : Nat → L2.St → Hp → Prop) (h0 : Pv 0 σ H)
    (hs : ∀ (i : Nat) σ H, i < n → Pv i σ H → tb ⟨Pv (i + 1), rt, nx, Pv (i + 1)⟩ (σ.set k (some (.int (i : Int)))) H) (hd : ∀ σ H, Pv n σ H → nx σ H) : Loop n (gName k) tb ⟨nx, rt, bk, ct⟩ σ H :=
  for_range (lo := 0) (n := n) (D := ⟨nx, rt, bk, ct⟩) Pv h0 (fun i σ H hi p => by
    have e : (0 : Int) + (i : Int) = (i : Int) := Int.zero_add _
    show tb ⟨Pv (i + 1), rt, nx, Pv (i + 1)⟩ (σ.set k (some (.int ((0 : Int) + (i : Int))))) H
    rw [e]
    exact hs i σ H hi p) hd
theorem g_absN (q : ∀ j : Int, 0 ≤ j → Q (.int j) H) : rAbs1 [.int i] H Q := ⟨i, rfl, q _ (by split <;> omega)⟩
theorem g_maxN (q : ∀ z : Int, i ≤ z → j ≤ z → (z = i ∨ z = j) → Q (.int z) H) : rMaxI [.int i, .int j] H Q := ⟨i, j, rfl, q _ (by split <;> omega) (by split <;> omega) (by split <;> simp)⟩
theorem g_minN (q : ∀ z : Int, z ≤ i → z ≤ j → (z = i ∨ z = j) → Q (.int z) H) : rMinI [.int i, .int j] H Q := ⟨i, j, rfl, q _ (by split <;> omega) (by split <;> omega) (by split <;> simp)⟩
theorem atI_some {α : Type} {xs : List α} (h0 : 0 ≤ i) (h1 : i < xs.length) : ∃ v, v ∈ xs ∧ atI xs i = some v := by
  obtain ⟨k, rfl⟩ : ∃ k : Nat, i = k := ⟨i.toNat, by omega⟩
  have hk : k < xs.length := by omega
  exact ⟨xs[k], List.getElem_mem hk, atI_nat (List.getElem?_eq_getElem hk)⟩
/-- an item of a list at an open place: what all items have -/
theorem g_ixP {P : V → Prop} (h : H p = some (.lst xs)) (h0 : 0 ≤ i) (h1 : i < xs.length) (hp : ∀ v, v ∈ xs → P v) (q : ∀ v, P v → Q v H) : rIxL K (.ref p) (.int i) H Q := by
  obtain ⟨v, hv, e⟩ := atI_some h0 h1
  exact ⟨p, xs, i, v, rfl, rfl, SqL.of h, e, q v (hp v hv)⟩
/-- .. of ints between two bounds -/
def IntIn (lo hi : Int) (v : V) : Prop := ∃ z, v = .int z ∧ lo ≤ z ∧ z ≤ hi
theorem g_ixI (lo hi : Int) (h : H p = some (.lst xs)) (h0 : 0 ≤ i) (h1 : i < xs.length) (hp : ∀ v, v ∈ xs → IntIn lo hi v) (q : ∀ z : Int, lo ≤ z → z ≤ hi → Q (.int z) H) : rIxL K (.ref p) (.int i) H Q :=
  g_ixP h h0 h1 hp fun v ⟨z, e, a, b⟩ => by rw [e]; exact q z a b
theorem intIn_nil {lo hi : Int} : ∀ v, v ∈ ([] : List V) → IntIn lo hi v := fun _ h => nomatch h
theorem intIn_cons {lo hi z : Int} {r : List V} (h1 : lo ≤ z) (h2 : z ≤ hi) (h : ∀ v, v ∈ r → IntIn lo hi v) : ∀ v, v ∈ V.int z :: r → IntIn lo hi v := fun v hv => by
  rcases List.mem_cons.mp hv with e | e
  · exact ⟨z, e, h1, h2⟩
  · exact h v e
end
/-! the law's own helpers: a source of drawn numbers -/
def Sd (n s : Int) : Prop := 0 ≤ n ∧ 0 ≤ s ∧ s < 2147483647
def spSource (K : PySem.W.Frag) : Sp := fun vs H Q _ => ∃ (a : Addr) (ns : List Int) (t : Nat), vs = [.ref a, .int (t : Int)] ∧ SqL K H a (ns.map V.int) ∧
  ∀ (q : Addr) (n s : Int) (H' : Hp), H q = none → Ch [] H H' → H' q = some (.lst [.int n, .int s]) → Sd n s → Q (.ref q) H'
def spDraw : Sp := fun vs H Q _ => ∃ (a : Addr) (n s m : Int), vs = [.ref a, .int m] ∧ H a = some (.lst [.int n, .int s]) ∧ Sd n s ∧ 1 ≤ m ∧ m ≤ 10 ^ 60 ∧
  ∀ (d n' s' : Int) (H' : Hp), Ch [a] H H' → H' a = some (.lst [.int n', .int s']) → 0 ≤ d → d < m → Sd n' s' → Q (.int d) H'
/-- a helper that draws and hands out what P says -/
def spGive (P : V → Prop) : Sp := fun vs H Q _ => ∃ (a : Addr) (n s : Int), vs = [.ref a] ∧ H a = some (.lst [.int n, .int s]) ∧ Sd n s ∧
  ∀ (v : V) (n' s' : Int) (H' : Hp), Ch [a] H H' → H' a = some (.lst [.int n', .int s']) → P v → Sd n' s' → Q v H'
section
variable {H0 : Hp} {M : Addr → Prop} {H : Hp} {l : List Ent} {l' : Int → Int → List Ent} {a : Addr} {n s m : Int} {Q : VK} {E : XK} {K : PySem.W.Frag}
theorem use_draw (S : Sh H0 M H l) (r : ∀ n' s', Rep l a (.lst [.int n, .int s]) (.lst [.int n', .int s']) (l' n' s')) (hs : Sd n s) (h1 : 1 ≤ m) (h2 : m ≤ 10 ^ 60)
    (q : ∀ d n' s' H', 0 ≤ d → d < m → Sd n' s' → Sh H0 M H' (l' n' s') → Q (.int d) H') : spDraw [.ref a, .int m] H Q E :=
  ⟨a, n, s, m, rfl, S.has _ (r n s).mem, hs, h1, h2, fun d n' s' H' c h p1 p2 p3 => q d n' s' H' p1 p2 p3 (S.ch1 (r n' s') c h)⟩
theorem use_give {P : V → Prop} (S : Sh H0 M H l) (r : ∀ n' s', Rep l a (.lst [.int n, .int s]) (.lst [.int n', .int s']) (l' n' s')) (hs : Sd n s)
    (q : ∀ v n' s' H', P v → Sd n' s' → Sh H0 M H' (l' n' s') → Q v H') : spGive P [.ref a] H Q E :=
  ⟨a, n, s, rfl, S.has _ (r n s).mem, hs, fun v n' s' H' c h p1 p3 => q v n' s' H' p1 p3 (S.ch1 (r n' s') c h)⟩
theorem use_giveI {lo hi : Int} (S : Sh H0 M H l) (r : ∀ n' s', Rep l a (.lst [.int n, .int s]) (.lst [.int n', .int s']) (l' n' s')) (hs : Sd n s)
    (q : ∀ z n' s' H', lo ≤ z → z ≤ hi → Sd n' s' → Sh H0 M H' (l' n' s') → Q (.int z) H') : spGive (IntIn lo hi) [.ref a] H Q E :=
  use_give S r hs fun v n' s' H' ⟨z, e, h1, h2⟩ hs S' => by rw [e]; exact q z n' s' H' h1 h2 hs S'
theorem use_source {ns : List Int} {t : Nat} (S : Sh H0 M H l) (h : SqL K H a (ns.map V.int)) (q : ∀ b n s H', Sd n s → Sh H0 M H' ((b, .lst [.int n, .int s], true) :: l) → Q (.ref b) H') : spSource K [.ref a, .int (t : Int)] H Q E :=
  ⟨a, ns, t, rfl, h, fun b n s H' hb c hh hs => q b n s H' hs (S.add c hb hh)⟩
end
end AF
/-! the plain steps, found by their heads -/
namespace AF
open PySem PySem.Spec PyProof.Rows L2
class Step (A : Prop) (B : outParam Prop) : Prop where
  go : B → A
class SlotI (σ : L2.St) (i : Nat) (v : outParam V) : Prop where
  at_ : σ[i]? = some (some v)
instance {v : V} {r : L2.St} : SlotI (some v :: r) 0 v := ⟨rfl⟩
instance {o : Option V} {r : L2.St} {i : Nat} {v : V} [h : SlotI r i v] : SlotI (o :: r) (i + 1) v := ⟨by rw [List.getElem?_cons_succ]; exact h.at_⟩
class SetI (σ : L2.St) (i : Nat) (v : V) (σ' : outParam L2.St) : Prop where
  eq : σ.set i (some v) = σ'
instance {o : Option V} {r : L2.St} {v : V} : SetI (o :: r) 0 v (some v :: r) := ⟨rfl⟩
instance {o : Option V} {r r' : L2.St} {i : Nat} {v : V} [h : SetI r i v r'] : SetI (o :: r) (i + 1) v (o :: r') := ⟨by rw [List.set_cons_succ, h.eq]⟩
class StartI (N : List Str) (vs : List V) (σ : outParam L2.St) : Prop where
  en : Ent0 N vs σ
instance : StartI [] [] [] := ⟨.nil⟩
instance {x : Str} {N : List Str} {v : V} {vs : List V} {σ : L2.St} [h : StartI N vs σ] : StartI (x :: N) (v :: vs) (some v :: σ) := ⟨.val h.en⟩
instance {x : Str} {N : List Str} {σ : L2.St} [h : StartI N [] σ] : StartI (x :: N) [] (none :: σ) := ⟨.non h.en⟩
section
variable {σ σ' : L2.St} {H : Hp} {Q : VK} {nx : L2.St → Hp → Prop} {rt : VK} {bk ct : L2.St → Hp → Prop} {ta tb tc te : TE} {t u : TS} {c d : TT} {i j : Int} {x y : V} {K : PySem.W.Frag} {a C dx : Addr} {f m : Str} {v : V} {k : Bool} {tr : TA} {sp : Sp} {E : XK} {QB : Bool → Hp → Prop} {QL : List V → Hp → Prop}
instance : Step (tSeq t u ⟨nx, rt, bk, ct⟩ σ H) (t ⟨fun σ H => u ⟨nx, rt, bk, ct⟩ σ H, rt, bk, ct⟩ σ H) := ⟨g_seq⟩
instance : Step (tNext ⟨nx, rt, bk, ct⟩ σ H) (nx σ H) := ⟨g_next⟩
instance {i : Nat} : Step (tAsg te (gName i) ⟨nx, rt, bk, ct⟩ σ H) (te σ H fun x H1 => nx (σ.set i (some x)) H1) := ⟨g_asg⟩
instance : Step (tRet te ⟨nx, rt, bk, ct⟩ σ H) (te σ H rt) := ⟨g_ret⟩
instance : Step (tRetN ⟨nx, rt, bk, ct⟩ σ H) (rt .non H) := ⟨g_retN⟩
instance : Step (tDrop te ⟨nx, rt, bk, ct⟩ σ H) (te σ H fun _ H1 => nx σ H1) := ⟨g_drop⟩
instance : Step (tIfS c t u ⟨nx, rt, bk, ct⟩ σ H) (c σ H fun b H1 => if b = true then t ⟨nx, rt, bk, ct⟩ σ H1 else u ⟨nx, rt, bk, ct⟩ σ H1) := ⟨g_if⟩
instance {i : Nat} [h : SlotI σ i v] : Step (tVar i σ H Q) (Q v H) := ⟨g_var h.at_⟩
instance : Step (tC v σ H Q) (Q v H) := ⟨g_c⟩
instance {r : R2} : Step (tOp r ta tb σ H Q) (ta σ H fun x H1 => tb σ H1 fun y H2 => r x y H2 Q) := ⟨g_op⟩
instance {r : V → Hp → VK → Prop} : Step (tUn r ta σ H Q) (ta σ H fun x H1 => r x H1 Q) := ⟨g_un⟩
instance {g : Int → Int → V} : Step (rI0 g (.int i) (.int j) H Q) (Q (g i j) H) := ⟨g_I0⟩
instance {g : Int → V} : Step (rU g (.int i) H Q) (Q (g i) H) := ⟨g_U⟩
instance : Step (rEq (.int i) (.int j) H Q) (Q (.bl (decide (i = j))) H) := ⟨g_eqI⟩
instance : Step (rNe (.int i) (.int j) H Q) (Q (.bl (!decide (i = j))) H) := ⟨g_neI⟩
instance : Step (tTest te σ H QB) (te σ H (kB QB)) := ⟨g_test⟩
instance : Step (tB te σ H QB) (te σ H (kB QB)) := ⟨g_tB⟩
instance : Step (kB QB (.bl k) H) (QB k H) := ⟨g_kb⟩
instance : Step (kAnd Q tb σ (.bl k) H) (if k = true then tb σ H Q else Q (.bl false) H) := ⟨g_kand⟩
instance : Step (kOr Q tb σ (.bl k) H) (if k = true then Q (.bl true) H else tb σ H Q) := ⟨g_kor⟩
instance : Step (kNot Q (.bl k) H) (Q (.bl (!k)) H) := ⟨g_knot⟩
instance {r' : R2} : Step (kChain r' tc σ y Q (.bl k) H) (if k = true then tc σ H fun w' H4 => r' y w' H4 Q else Q (.bl false) H) := ⟨g_kchain⟩
instance {r r' : R2} : Step (tChain r r' ta tb tc σ H Q) (ta σ H fun x H1 => tb σ H1 fun y H2 => r x y H2 (kChain r' tc σ y Q)) := ⟨g_chain⟩
instance : Step (tAndV ta tb σ H Q) (ta σ H (kAnd Q tb σ)) := ⟨g_andV⟩
instance : Step (tOrV ta tb σ H Q) (ta σ H (kOr Q tb σ)) := ⟨g_orV⟩
instance : Step (tNotV ta σ H Q) (ta σ H (kNot Q)) := ⟨g_notV⟩
instance : Step (tNot c σ H QB) (c σ H fun k H1 => QB (!k) H1) := ⟨g_tnot⟩
instance : Step (tAnd c d σ H QB) (c σ H fun k H1 => if k = true then d σ H1 QB else QB false H1) := ⟨g_tand⟩
instance : Step (tOr c d σ H QB) (c σ H fun k H1 => if k = true then QB true H1 else d σ H1 QB) := ⟨g_tor⟩
instance : Step (tIf c ta tb σ H Q) (c σ H fun k H1 => if k = true then ta σ H1 Q else tb σ H1 Q) := ⟨g_ifE⟩
instance : Step (tNil σ H QL) (QL [] H) := ⟨g_nil⟩
instance : Step (tCons ta tr σ H QL) (ta σ H fun x H1 => tr σ H1 fun xs H2 => QL (x :: xs) H2) := ⟨g_cons⟩
instance {r : List V → Hp → VK → Prop} : Step (tCB r tr σ H Q) (tr σ H fun vs H1 => r vs H1 Q) := ⟨g_cb⟩
instance : Step (tCall sp [] E tr σ H Q) (tr σ H fun vs H1 => sp vs H1 Q E) := ⟨g_call⟩
instance : Step (tProp C sp [] E ta σ H Q) (ta σ H (kProp C sp E Q)) := ⟨g_prop⟩
instance : Step (tMeth C m sp [] E ta tr σ H Q) (ta σ H (kMeth C m sp E tr σ Q)) := ⟨g_meth⟩
instance : Step (tMake C sp [] E tr σ H Q) (tr σ H (kMake C sp E Q)) := ⟨g_make⟩
instance : Step (rInt1 [.int i] H Q) (Q (.int i) H) := ⟨g_int⟩
instance : Step (rInt1 [.bl k] H Q) (Q (.int (if k then 1 else 0)) H) := ⟨g_intb⟩
instance : Step (tLst tr σ H Q) (tr σ H (kLst Q)) := ⟨g_lst⟩
instance : Step (tTup tr σ H Q) (tr σ H (kTup Q)) := ⟨g_tup⟩
instance {i j : Nat} : Step (tPar i j tr ⟨nx, rt, bk, ct⟩ σ H) (tr σ H (kPar nx σ i j)) := ⟨g_par⟩
instance {i j : Nat} {σ2 : L2.St} [h : SetI σ i x σ'] [h2 : SetI σ' j y σ2] : Step (kPar nx σ i j [x, y] H) (nx σ2 H) := ⟨fun q => ⟨x, y, rfl, by rw [h.eq, h2.eq]; exact q⟩⟩
instance {to ti : TE} {s : TSet} : Step (tAsg te (gSub to ti s) ⟨nx, rt, bk, ct⟩ σ H) (te σ H fun x H1 => to σ H1 fun o H2 => ti σ H2 fun i H3 => s o i x H3 fun H4 => nx σ H4) := ⟨g_sub⟩
instance : Step (tFld K ta f σ H Q) (ta σ H (kFld K f Q)) := ⟨g_fld⟩
instance {tv : TE} : Step (sFld K ta tv f ⟨nx, rt, bk, ct⟩ σ H) (tv σ H fun y H1 => ta σ H1 (kSFld K f (nx σ) y)) := ⟨g_sfld⟩
instance {ta : TA} {g : TG} {D : Ends} : Step (tFor (iRng1 ta) g t D σ H) (ta σ H (kR1 fun j H1 => Loop j.toNat g t D σ H1)) := ⟨g_for1⟩
end
theorem set_go {σ σ' : L2.St} {i : Nat} {v : V} {H : Hp} {A : L2.St → Hp → Prop} [h : SetI σ i v σ'] (q : A σ' H) : A (σ.set i (some v)) H := by rw [h.eq]; exact q
theorem start_go {N : List Str} {vs : List V} {σ : L2.St} {A : L2.St → Hp → Prop} {H : Hp} [h : StartI N vs σ] (q : A σ H) : A (L2.start N vs) H := g_start h.en q
end AF
/-! what the top leaves, looked at once -/
namespace AF
open PySem PySem.Spec PyProof.Rows L2 He
open PySem.W (Frag findIn isFn subIn selfFirst notFirst specialIn takesIn mroIn kitOne keepIn codeIn recIn)

/-- a def, by where it stands -/
structure DA where
  ad : Frag → Addr
  name : Str
  qual : Str
  st : Stmt
  dfl : List Dv := []
  kwd : List (Str × Dv) := []
def seeF (K : Frag) (a : Addr) : FnW := match K.lookup a with
  | some ⟨_, _, .func d, _⟩ => some (d.name, d.qualname, d.params, d.body, d.scope, d.globals, d.closure, d.builtins)
  | _ => none
def DA.want (d : DA) : FnW := some (d.name, d.qual, defArgs d.st, .stmts (defBody d.st), defScope d.st, mainGlobals, [], builtinsNs)
def DA.fine (K : Frag) (d : DA) : Bool := keepIn K (.ref (d.ad K)) && (match K.lookup (d.ad K) with
  | some ⟨_, _, .func fd, _⟩ => codeIn K fd.code d.qual && (dflB K fd.defaults (d.dfl.map (Dv.v K)) && kwdB K fd.kwdefaults (d.kwd.map fun q => (q.1, q.2.v K)))
  | _ => false)
theorem DA.get {K : Frag} {d : DA} (e : seeF K (d.ad K) = d.want) (c : d.fine K = true) :
    ∃ fd, FunD K d.name d.qual (defArgs d.st) (defBody d.st) (defScope d.st) (d.dfl.map (Dv.v K)) (d.kwd.map fun q => (q.1, q.2.v K)) (d.ad K) fd := by
  obtain ⟨kp, c2⟩ := ba c
  unfold seeF at e
  cases q : K.lookup (d.ad K) with
  | none => rw [q] at c2; cases c2
  | some o =>
    obtain ⟨oc, od, dt, osl⟩ := o
    rw [q] at c2 e
    cases dt with
    | func fd =>
      obtain ⟨n1, n2, n3, n4, n5, n6, n7, n8, n9, n10, n11, n12, n13, n14, n15⟩ := fd
      have e2 : (some (n1, n2, n3, n4, n5, n6, n7, n15) : FnW) = some (d.name, d.qual, defArgs d.st, .stmts (defBody d.st), defScope d.st, mainGlobals, [], builtinsNs) := e
      simp only [Option.some.injEq, Prod.mk.injEq] at e2
      obtain ⟨h1, h2, h3, h4, h5, h6, h7, h8⟩ := e2
      subst h1 h2 h3 h4 h5 h6 h7 h8
      obtain ⟨k1, k2⟩ := ba (show (codeIn K n13 d.qual && (dflB K n8 (d.dfl.map (Dv.v K)) && kwdB K n9 (d.kwd.map fun q => (q.1, q.2.v K)))) = true from c2)
      obtain ⟨k3, k4⟩ := ba k2
      exact ⟨_, ⟨oc, od, n8, n9, n10, n11, n12, n13, n14, osl, rfl, q, k1, dflB_ok k3, kwdB_ok k4⟩, kp⟩
    | _ => cases c2
abbrev Seen : Type := Bool × List FnW
def look (fs : Frag → List Bool) (ds : List DA) (K : Frag) : Seen := ((fs K).all id && ds.all fun d => d.fine K, ds.map fun d => seeF K (d.ad K))
def lookW (ds : List DA) : Seen := (true, ds.map DA.want)
def Tells (fs : Frag → List Bool) (ds : List DA) (K : Frag) : Prop := look fs ds K = lookW ds
def lookG (n : Nat) (fs : Frag → List Bool) (ds : List DA) (g : Addr → Option Obj) : Seen := look fs ds (frG g (asD g n))
def hook (n : Nat) (fs : Frag → List Bool) (ds : List DA) : PySem.W.Hook where
  α := Seen
  obs := fun s => lookG n fs ds s.heap.get?
  val := fun _ => lookW ds
  says := fun _ h => ∃ K : Frag, K.In h ∧ Tells fs ds K
  of := fun _ _ e => ⟨_, frG_in, e⟩
  keeps := fun _ _ _ ⟨K, hK, c⟩ k => ⟨K, Frag.In.keeps hK k, c⟩
theorem lookG_eq {n : Nat} {fs : Frag → List Bool} {ds : List DA} {g : Addr → Option Obj} {s : Shared} (h : ∀ a, g a = s.heap.get? a) : lookG n fs ds g = (hook n fs ds).obs s := by
  have e : g = s.heap.get? := funext h
  rw [e]
  rfl
section
variable {fs : Frag → List Bool} {ds : List DA} {K : Frag}
theorem Tells.fact (c : Tells fs ds K) (i : Nat) {b : Bool} (h : (fs K)[i]? = some b := by rfl) : b = true := by
  have c1 := (ba (show ((fs K).all id && ds.all fun d => d.fine K) = true from congrArg (fun z : Seen => z.1) c)).1
  exact List.all_eq_true.mp c1 b (List.mem_of_getElem? h)
theorem Tells.def_ (c : Tells fs ds K) (i : Nat) {d : DA} (h : ds[i]? = some d := by rfl) :
    ∃ fd, FunD K d.name d.qual (defArgs d.st) (defBody d.st) (defScope d.st) (d.dfl.map (Dv.v K)) (d.kwd.map fun q => (q.1, q.2.v K)) (d.ad K) fd := by
  have c2 := (ba (show ((fs K).all id && ds.all fun d => d.fine K) = true from congrArg (fun z : Seen => z.1) c)).2
  have e : ds.map (fun d => seeF K (d.ad K)) = ds.map DA.want := congrArg (fun z : Seen => z.2) c
  have e2 : (ds.map fun d => seeF K (d.ad K))[i]? = (ds.map DA.want)[i]? := by rw [e]
  rw [List.getElem?_map, List.getElem?_map, h] at e2
  exact DA.get (Option.some.inj e2) (List.all_eq_true.mp c2 d (List.mem_of_getElem? h))
end
/-! facts as truths -/
section
variable {K : Frag} {C f : Addr} {op : Operator} {T : String}
def refO : Option Value → Bool
  | some (.ref _) => true
  | none => true
  | _ => false
def refS : Option (Option Value) → Bool
  | some o => refO o
  | none => false
def fnS : Option (Option Value) → Bool
  | some (some (.ref _)) => true
  | _ => false
def binB (K : Frag) (op : Operator) (C f : Addr) : Bool := selfFirst K C && (eqO (findIn K (.ref C) (PySem.dunder op.info.2)) (some (some (.ref f))) && (isFn K (.ref f) && refS (findIn K (.ref C) (dunderR op.info.2))))
theorem binB_ok (h : binB K op C f = true) : Bin K op C f := by
  obtain ⟨h1, h⟩ := ba h
  obtain ⟨h2, h⟩ := ba h
  obtain ⟨h3, h4⟩ := ba h
  refine ⟨h1, eqO_ok h2, h3, ?_⟩
  cases e : findIn K (.ref C) (dunderR op.info.2) with
  | none => rw [e] at h4; cases h4
  | some o =>
    rw [e] at h4
    refine ⟨o, rfl, ?_⟩
    cases o with
    | none => exact .inl rfl
    | some v =>
      cases v with
      | ref a => exact .inr ⟨a, rfl⟩
      | _ => cases h4
def binTB (K : Frag) (op : Operator) (C : Addr) (T : String) : Bool := (findIn K (.type T) (PySem.dunder op.info.2)).isSome && ((findIn K (.type T) (dunderR op.info.2)).isSome && decide (subIn K (.type T) (.ref C) = some false))
theorem binTB_ok (h : binTB K op C T = true) : Beside K op C (.type T) := by
  obtain ⟨h1, h⟩ := ba h
  obtain ⟨h2, h3⟩ := ba h
  exact .inr ⟨T, rfl, Option.isSome_iff_exists.mp h1, Option.isSome_iff_exists.mp h2, of_decide_eq_true h3⟩
def binRB (K : Frag) (op : Operator) (C f : Addr) : Bool := selfFirst K C && (fnS (findIn K (.ref C) (PySem.dunder op.info.2)) && (eqO (findIn K (.ref C) (dunderR op.info.2)) (some (some (.ref f))) && (isFn K (.ref f) && decide (subIn K (.ref C) (.type "int") = some false))))
theorem binRB_ok (h : binRB K op C f = true) : BinR K op C f := by
  obtain ⟨h1, h⟩ := ba h
  obtain ⟨h2, h⟩ := ba h
  obtain ⟨h3, h⟩ := ba h
  obtain ⟨h4, h5⟩ := ba h
  refine ⟨h1, ?_, eqO_ok h3, h4, of_decide_eq_true h5⟩
  unfold fnS at h2
  split at h2
  · rename_i a e
    exact ⟨a, e⟩
  · cases h2
def cmpB (K : Frag) (op : CmpOp) (C f : Addr) : Bool := eqO (findIn K (.ref C) (cmpInfo op).2.1) (some (some (.ref f))) && isFn K (.ref f)
theorem cmpB_ok {op : CmpOp} (h : cmpB K op C f = true) : Cmp K op C f := by
  obtain ⟨h1, h2⟩ := ba h
  exact ⟨eqO_ok h1, h2⟩
def neB (K : Frag) (C f : Addr) : Bool := eqO (findIn K (.ref C) "__ne__") (some (some (.builtin "object.__ne__"))) && (eqO (findIn K (.ref C) "__eq__") (some (some (.ref f))) && (isFn K (.ref f) && decide (mroIn K C (.type "object") = some true)))
theorem neB_ok (h : neB K C f = true) : NeC K C f := by
  obtain ⟨h1, h⟩ := ba h
  obtain ⟨h2, h⟩ := ba h
  obtain ⟨h3, h4⟩ := ba h
  exact ⟨eqO_ok h1, eqO_ok h2, h3, of_decide_eq_true h4⟩
def insB (K : Frag) (C : Addr) : Bool := eqO (findIn K (.ref C) "__class__") (some (some (.builtin "object.__class__"))) && (eqO (specialIn K (.builtin "object.__class__") "__get__") (some (some (.builtin "getset_descriptor.__get__"))) &&
  (decide (takesIn K (.builtin "object.__class__") = some true) && (decide (mroIn K C (.type "object") = some true) && decide (kitOne K (.ref C) (.ref C) = some true))))
theorem insB_ok (c : Cls K C) (h : insB K C = true) : C8.InsC K C := by
  obtain ⟨h1, h⟩ := ba h
  obtain ⟨h2, h⟩ := ba h
  obtain ⟨h3, h⟩ := ba h
  obtain ⟨h4, h5⟩ := ba h
  exact ⟨c, eqO_ok h1, eqO_ok h2, of_decide_eq_true h3, of_decide_eq_true h4, of_decide_eq_true h5⟩
/-- a property's getter -/
def getA (C : Str) (m : Str) (K : Frag) : Addr := He5.wf K (ga K C) "property" m
def propB (K : Frag) (C : Addr) (m : Str) (g : Addr) : Bool := eqO (findIn K (.ref C) m) (some (some (.ref (ma K C m)))) && (eqO (specialIn K (.ref (ma K C m)) "__get__") (some (some (.builtin "property.__get__"))) &&
  (decide (takesIn K (.ref (ma K C m)) = some true) && (match recIn K (ma K C m) "property" with
    | some (.ref a :: _) => decide (a = g)
    | _ => false)))
theorem propB_ok {m : Str} {g : Addr} (h : propB K C m g = true) : PropOf K C m (ma K C m) g := by
  obtain ⟨h1, h⟩ := ba h
  obtain ⟨h2, h⟩ := ba h
  obtain ⟨h3, h4⟩ := ba h
  refine ⟨eqO_ok h1, eqO_ok h2, of_decide_eq_true h3, ?_⟩
  split at h4
  · rename_i a r e
    rw [of_decide_eq_true h4] at e
    exact ⟨r, e⟩
  · cases h4
end
end AF
/-! comprehensions over a short range, truths compared, counted -/
namespace AF
open PySem PySem.Spec PyProof.Rows L2
section
variable {H0 : Hp} {M : Addr → Prop} {H : Hp} {l l' : List Ent}
theorem Sh.perm (S : Sh H0 M H l) (p : l.Perm l') : Sh H0 M H l' :=
  ⟨S.fr, fun e he => S.has e (p.mem_iff.mpr he), (p.map tag).pairwise S.ap (fun {a b} h k => (h (k.symm)).symm), fun e he => S.mu e (p.mem_iff.mpr he)⟩
end
section
variable {σ σ' : L2.St} {H : Hp} {Q : VK} {K : PySem.W.Frag} {a b k : Bool} {nx : L2.St → Hp → Prop} {rt : VK} {bk ct : L2.St → Hp → Prop}
theorem g_eqB (q : Q (.bl (decide (a = b))) H) : rEq (.bl a) (.bl b) H Q := ⟨rfl, by
  have e : decide (V.bl a = V.bl b) = decide (a = b) := by rw [dec_bl]; cases a <;> cases b <;> rfl
  rw [e]; exact q⟩
theorem g_neB (q : Q (.bl (!decide (a = b))) H) : rNe (.bl a) (.bl b) H Q := ⟨rfl, by
  have e : decide (V.bl a = V.bl b) = decide (a = b) := by rw [dec_bl]; cases a <;> cases b <;> rfl
  rw [e]; exact q⟩
instance : Step (rEq (.bl a) (.bl b) H Q) (Q (.bl (decide (a = b))) H) := ⟨g_eqB⟩
instance : Step (rNe (.bl a) (.bl b) H Q) (Q (.bl (!decide (a = b))) H) := ⟨g_neB⟩
end
/-- a comprehension over a range of n turns, its variable in slot k -/
def LcR (n k : Nat) (te : TE) (σ : L2.St) (Q : VK) (H : Hp) : Prop := ∀ D, H D = none → ∃ W : Nat → Nat → Hp → Prop, (∃ m, W 0 m (upd H D (.lst []))) ∧ ∀ i m H, W i m H →
  ((Itr 0 n).stop i H ∧ Q (.ref D) H) ∨ ((Itr 0 n).go i H ∧ ∃ Nx : Hp → Prop, (∀ H', Nx H' → ∃ m', m' < m ∧ W (i + 1) m' H') ∧ ∀ x H', (Itr 0 n).yld i H x H' → gName k x (wipe σ [k]) H' fun σ2 H2 => wipe σ2 [k] = wipe σ [k] ∧ tYes σ2 H2 fun b H3 =>
    if b = true then te σ2 H3 fun y H4 => ∃ acc, H4 D = some (.lst acc) ∧ acc.length < sizeLine ∧ Nx (upd H4 D (.lst (acc ++ [y]))) else Nx H3)
/-- behind an element -/
def kEl (D : Addr) (P : Hp → Prop) (y : V) (H : Hp) : Prop := ∃ acc, H D = some (.lst acc) ∧ acc.length < sizeLine ∧ P (upd H D (.lst (acc ++ [y])))
section
variable {σ σ' : L2.St} {H : Hp} {Q : VK} {ta : TA} {te : TE} {k n : Nat}
theorem g_lcR (h : ta σ H (kR1 fun j H1 => LcR j.toNat k te σ Q H1)) : tLc (iRng1 ta) (gName k) tYes te [k] σ H Q := h
instance {x : Str} : Step (tLc (iRng1 ta) (gName k) tYes te (List.map (fun x => x.snd) [(x, k)]) σ H Q) (ta σ H (kR1 fun j H1 => LcR j.toNat k te σ Q H1)) := ⟨g_lcR⟩
theorem g_lcloop (hk : ∀ x : V, wipe ((wipe σ [k]).set k (some x)) [k] = wipe σ [k]) (Pv : Addr → Nat → Hp → Prop) (h0 : ∀ D, H D = none → Pv D 0 (upd H D (.lst [])))
    (hs : ∀ D (i : Nat) H', i < n → Pv D i H' → te ((wipe σ [k]).set k (some (.int (i : Int)))) H' (kEl D (Pv D (i + 1)))) (hd : ∀ D H', Pv D n H' → Q (.ref D) H') : LcR n k te σ Q H := fun D hD =>
  lc_range (lo := 0) (n := n) (Pv D) (h0 D hD) (fun i H' hi p => by
    have e : (0 : Int) + (i : Int) = (i : Int) := Int.zero_add _
    have q := hs D i H' hi p
    rw [← e] at q
    exact ⟨hk _, iteT (B := Pv D (i + 1) H') q⟩) (hd D)
theorem g_kel {H0 : Hp} {M : Addr → Prop} {l l' : List Ent} {D : Addr} {P : Hp → Prop} {acc : List V} {y : V} (S : Sh H0 M H l) (r : Rep l D (.lst acc) (.lst (acc ++ [y])) l') (hl : acc.length ≤ 1000) (q : ∀ H', Sh H0 M H' l' → P H') : kEl D P y H :=
  ⟨acc, S.has _ r.mem, small1000 hl, q _ (S.put r)⟩
end
theorem g_unl3 {σ σ1 σ2 σ3 : L2.St} {H : Hp} {K : PySem.W.Frag} {p : Addr} {x y z : V} {i j k : Nat} {P : L2.St → Hp → Prop} [h1 : SetI σ i x σ1] [h2 : SetI σ1 j y σ2] [h3 : SetI σ2 k z σ3] (h : H p = some (.lst [x, y, z])) (q : P σ3 H) :
    gUnl K 3 (gCons (gName i) (gCons (gName j) (gCons (gName k) gNil))) (.ref p) σ H P := by
  refine ⟨p, _, rfl, SqL.of h, rfl, x, _, rfl, y, _, rfl, z, _, rfl, rfl, ?_⟩
  rw [h1.eq, h2.eq, h3.eq]
  exact q
instance {te : TE} {K : PySem.W.Frag} {n : Nat} {t : TGs} {nx : L2.St → Hp → Prop} {rt : VK} {bk ct : L2.St → Hp → Prop} {σ : L2.St} {H : Hp} : Step (tAsg te (gUnl K n t) ⟨nx, rt, bk, ct⟩ σ H) (te σ H fun x H1 => gUnl K n t x σ H1 nx) := ⟨fun h => h⟩
/-- list.count of a truth in a list of truths -/
def eqb (k : Bool) (v : Value) : Bool := match v with
  | .bool b => b == k
  | _ => false
def rCntB (K : PySem.W.Frag) : V → List V → Hp → VK → Prop := fun x xs H Q => ∃ (p : Addr) (bs : List Bool) (k : Bool), x = .ref p ∧ xs = [.bl k] ∧ SqL K H p (bs.map V.bl) ∧ Q (.int (bs.count k : Nat)) H
theorem bools_of : ∀ {bs : List Bool} {us : List Value}, Vals (bs.map V.bl) us → us = bs.map Value.bool
  | [], _, .nil => rfl
  | b :: bs, _, .cons r t => by
    cases r
    rw [bools_of t]
    rfl
theorem countP_eqb {k : Bool} : ∀ bs : List Bool, (bs.map Value.bool).countP (eqb k) = bs.count k
  | [] => rfl
  | b :: bs => by
    rw [List.map_cons, List.countP_cons, List.count_cons, countP_eqb bs]
    rfl
theorem mt_bcount {X : Cx} : MtR X "list.count" (rCntB X.K) := by
  intro pins s σ H x xs v us Q I rx rxs h
  obtain ⟨p, bs, k, rfl, rfl, hs, q⟩ := h
  cases rx
  obtain ⟨u, rfl, ru⟩ := rxs.one
  cases ru
  obtain ⟨its, rv, ⟨⟨cls, dd, data, sl⟩, n, ho, hc, hdn, hd⟩, hlen⟩ := I.list hs
  simp only at hc hd
  subst hc hd
  have hi := bools_of rv
  subst hi
  refine call_meets PySem.F.slot_list_count ⟨_, ho, rfl⟩ PySem.F.entry_list_count (PySem.F.args_list_count_2 _ _)
    (SeqAt.list_countAt p (bs.map Value.bool).toArray n dd sl (.bool k) (eqb k)) ⟨ho, fun y hy => ?_, ?_⟩
  · have hy' : y ∈ bs.map Value.bool := List.mem_toArray.mp hy
    obtain ⟨b, _, rfl⟩ := List.mem_map.mp hy'
    exact SeqAt.EqAt.bool_bool b k
  · refine ⟨.int (bs.count k : Nat), H, I.tok _, ⟨s.toks, ?_⟩, q⟩
    show Value.int (((bs.map Value.bool).toArray.toList.countP (eqb k) : Nat) : Int) s.toks = Value.int ((bs.count k : Nat) : Int) s.toks
    rw [show ((bs.map Value.bool).toArray.toList) = bs.map Value.bool from rfl, countP_eqb]
def kBM (K : PySem.W.Frag) (T : String) (r : V → List V → Hp → VK → Prop) (t : TA) (σ : L2.St) (Q : VK) (x : V) (H : Hp) : Prop := tyV K T x H ∧ t σ H fun xs H2 => r x xs H2 Q
instance {K : PySem.W.Frag} {T : String} {r : V → List V → Hp → VK → Prop} {to : TE} {t : TA} {σ : L2.St} {H : Hp} {Q : VK} : Step (tBM K T r to t σ H Q) (to σ H (kBM K T r t σ Q)) := ⟨fun h => h⟩
/-- xs.count(k), xs just made -/
theorem g_cnt3 {H0 : Hp} {M : Addr → Prop} {l : List Ent} {σ : L2.St} {H : Hp} {Q : VK} {K : PySem.W.Frag} {p : Addr} {x y z : Bool} (S : Sh H0 M H l) (o : On l p (.lst [.bl x, .bl y, .bl z]))
    (q : Q (.int (([x, y, z] : List Bool).count true : Nat)) H) : kBM K "list" (rCntB K) (tCons (tC (.bl true)) tNil) σ Q (.ref p) H :=
  ⟨.inl ⟨rfl, _, SqL.of (S.has_ o)⟩, p, [x, y, z], true, rfl, rfl, SqL.of (S.has_ o), q⟩
end AF
/-! dicts: written ones with texts for keys, and new ones -/
namespace AF
open PySem PySem.Spec PyProof.Rows L2
/-- what stands at a key of a written dict, or the other value -/
def Here (r : Option Value) (v z : V) : Prop := match r with
  | some u => RelV v u
  | none => v = z
def tKGet (K : PySem.W.Frag) (d : Addr) (td ty tx : TE) : TE := fun σ H Q => td σ H fun x H1 => x = .ref d ∧ ty σ H1 fun y H2 => tx σ H2 fun z H3 => ∃ (k : Str) (r : Option Value) (v : V), y = .str k ∧ PySem.W.nsIn K d k = some r ∧ Here r v z ∧ Q v H3
theorem pe_kget {X : Cx} {d : Addr} {o e f : Expr} {apos cpos : Pos} {td ty tx : TE} (D : ∃ es n, KDict X.K X.w d es n) (ho : PE X o td) (he : PE X e ty) (hf : PE X f tx) (m : M2 X o "get" apos e f cpos) :
    PE X (.Call (.Attribute o "get" apos) [e, f] [] cpos) (tKGet X.K d td ty tx) := by
  obtain ⟨es, n, D⟩ := D
  refine ⟨fun pins s σ H Q I h => ?_⟩
  refine wpAny_Call_method m.base m.few m.line PySem.F.plainAttrs_dict PySem.F.slot_dict_get PySem.F.type_dict_get (thn (ho.run pins s σ H _ I h) fun u s1 ⟨x, H1, I1, rx, ex, q1⟩ => ?_)
  subst ex
  obtain rfl : u = Value.ref d := rx
  refine ⟨kd_type D I1, fun b q => ?_, ?_⟩
  · cases q
    exact ⟨_, I1.kIn _ _ D.at_, rfl⟩
  rw [m.trees]
  refine Calls.callWith_builtin rfl (Calls.evalArgs_plain (Calls.spliced_cons (thn (he.run pins s1 σ H1 _ I1 q1) fun iv s2 ⟨y, H2, I2, ry, q2⟩ =>
    Calls.spliced_cons (thn (hf.run pins s2 σ H2 _ I2 q2) fun fv s3 ⟨z, H3, I3, rz, k, r, v, ey, hk, hv, q3⟩ => Calls.spliced_nil ?_))))
  subst ey
  obtain ⟨t, rfl⟩ := ry
  refine call_meetsIn PySem.F.slot_dict_get (kd_type D I3) PySem.F.entry_dict_get (PySem.F.args_dict_get_3 _ _ _) (meets_dict_get_default (strKind X.prog X.w) d (PySem.strKind_is X.prog X.w k t) D.low fv) ⟨_, PySem.W.mapOf_K (prog := X.prog) I3.kIn D.at_ D.lit, ?_⟩
  rw [PySem.W.find_K D.at_ hk]
  cases r with
  | none =>
    have e : v = z := hv
    subst e
    exact ⟨v, H3, I3.tok _, rz, q3⟩
  | some u => exact ⟨v, H3, I3.tok _, hv, q3⟩
/-- a written tuple -/
def KT (K : PySem.W.Frag) (a : Addr) (xs : List V) : Prop := ∃ (o : Obj) (its : Array Value) (n : Nat), K.lookup a = some o ∧ o.cls = .type "tuple" ∧ o.data = .seq its n ∧ its.size ≤ sizeLine ∧ Vals xs its.toList
theorem KT.sq {K : PySem.W.Frag} {a : Addr} {xs : List V} {H : Hp} (h : KT K a xs) : SqT K H a xs := .inr h
/-- turn by turn -/
def Each (g : TG) (tb : TS) (D : Ends) : List V → L2.St → Hp → Prop
  | [] => D.nx
  | x :: r => fun σ H => g x σ H fun σ2 H2 => tb { D with nx := Each g tb D r, ct := Each g tb D r, bk := D.nx } σ2 H2
def kTurn (K : PySem.W.Frag) (g : TG) (tb : TS) (D : Ends) (σ : L2.St) : V → Hp → Prop := fun x H => ∃ a, x = .ref a ∧ (∃ xs, SqT K H a xs) ∧ ∃ W : Nat → Nat → L2.St → Hp → Prop, (∃ m, W 0 m σ H) ∧ ∀ i m σ H, W i m σ H →
  ((Itt K a).stop i H ∧ D.nx σ H) ∨ ((Itt K a).go i H ∧ ∃ N : L2.St → Hp → Prop, (∀ σ' H', N σ' H' → ∃ m', m' < m ∧ W (i + 1) m' σ' H') ∧ ∀ x H', (Itt K a).yld i H x H' → g x σ H' fun σ2 H2 => tb { D with nx := N, ct := N, bk := D.nx } σ2 H2)
instance {K : PySem.W.Frag} {ta : TE} {g : TG} {tb : TS} {D : Ends} {σ : L2.St} {H : Hp} : Step (tFor (iTup K ta) g tb D σ H) (ta σ H (kTurn K g tb D σ)) := ⟨fun h => h⟩
theorem g_turn {K : PySem.W.Frag} {a : Addr} {xs : List V} {g : TG} {tb : TS} {D : Ends} {σ : L2.St} {H : Hp} (h : KT K a xs) (q : Each g tb D xs σ H) : kTurn K g tb D σ (.ref a) H := by
  refine ⟨a, rfl, ⟨xs, h.sq⟩, for_tup (fun i σ H => Each g tb D (xs.drop i) σ H) q (fun _ _ _ _ _ => h.sq) (fun i x σ H hx p => ?_) fun σ H p => ?_⟩
  · obtain ⟨hi, e⟩ := List.getElem?_eq_some_iff.mp hx
    rw [List.drop_eq_getElem_cons hi, e] at p
    exact p
  · rw [List.drop_length] at p
    exact p
instance {i : Nat} {tb : TS} {nx bk ct : L2.St → Hp → Prop} {rt : VK} {x : V} {r : List V} {σ : L2.St} {H : Hp} : Step (Each (gName i) tb ⟨nx, rt, bk, ct⟩ (x :: r) σ H) (tb ⟨Each (gName i) tb ⟨nx, rt, bk, ct⟩ r, rt, nx, Each (gName i) tb ⟨nx, rt, bk, ct⟩ r⟩ (σ.set i (some x)) H) := ⟨fun h => h⟩
instance {g : TG} {tb : TS} {nx bk ct : L2.St → Hp → Prop} {rt : VK} {σ : L2.St} {H : Hp} : Step (Each g tb ⟨nx, rt, bk, ct⟩ [] σ H) (nx σ H) := ⟨fun h => h⟩
section
variable {K : PySem.W.Frag} {d a p : Addr} {H H0 : Hp} {M : Addr → Prop} {l l' : List Ent} {Q : VK} {z : Str} {xs : List V} {i : Int} {v : V} {σ : L2.St} {td ty tx : TE}
theorem g_ixT (h : H p = some (.tup xs)) (ha : atI xs i = some v) (q : Q v H) : rIxT K (.ref p) (.int i) H Q := ⟨p, xs, i, v, rfl, rfl, SqT.of h, ha, q⟩
theorem g_inT {x : V} {r : Bool} (h : H p = some (.tup xs)) (fx : flatV x = true) (fs : xs.all flatV = true) (e : inV x xs = r) (q : Q (.bl r) H) : rIn K false x (.ref p) H Q := ⟨p, xs, rfl, .inr (SqT.of h), fx, fs, by rw [e]; exact q⟩
theorem g_ninT {x : V} {r : Bool} (h : H p = some (.tup xs)) (fx : flatV x = true) (fs : xs.all flatV = true) (e : inV x xs = r) (q : Q (.bl (!r)) H) : rIn K true x (.ref p) H Q := ⟨p, xs, rfl, .inr (SqT.of h), fx, fs, by rw [e]; exact q⟩
theorem g_inKT {x : V} {r : Bool} (h : KT K p xs) (fx : flatV x = true) (fs : xs.all flatV = true) (e : inV x xs = r) (q : Q (.bl r) H) : rIn K false x (.ref p) H Q := ⟨p, xs, rfl, .inr h.sq, fx, fs, by rw [e]; exact q⟩
/-- x in d, d a written dict -/
def rInK (K : PySem.W.Frag) (d : Addr) (neg : Bool) : R2 := fun x y H Q => ∃ (z : Str) (r : Option Value), x = .str z ∧ y = .ref d ∧ PySem.W.nsIn K d z = some r ∧ Q (.bl (if neg then !r.isSome else r.isSome)) H
theorem op_inK {X : Cx} {d : Addr} (D : ∃ es n, KDict X.K X.w d es n) : OpR X (compareOp .In) (rInK X.K d false) := by
  obtain ⟨es, n, D⟩ := D
  exact op_in_kd D
theorem op_notInK {X : Cx} {d : Addr} (D : ∃ es n, KDict X.K X.w d es n) : OpR X (compareOp .NotIn) (rInK X.K d true) := by
  obtain ⟨es, n, D⟩ := D
  exact op_notIn_kd D
theorem g_inK {r : Option Value} (e : PySem.W.nsIn K d z = some r) (q : Q (.bl r.isSome) H) : rInK K d false (.str z) (.ref d) H Q := ⟨z, r, rfl, rfl, e, q⟩
theorem g_ninK {r : Option Value} (e : PySem.W.nsIn K d z = some r) (q : Q (.bl (!r.isSome)) H) : rInK K d true (.str z) (.ref d) H Q := ⟨z, r, rfl, rfl, e, q⟩
theorem g_ixK {w : World} {u : Value} (D : ∃ es n, KDict K w d es n) (e : PySem.W.nsIn K d z = some (some u)) (hv : RelV v u) (q : Q v H) : rIxD K w (.ref d) (.str z) H Q := by
  obtain ⟨es, n, D⟩ := D
  exact ⟨d, z, v, rfl, rfl, ⟨es, n, u, D.at_, D.lit, e, hv⟩, q⟩
theorem g_ixKr {w : World} {t : Addr} (D : ∃ es n, KDict K w d es n) (e : PySem.W.nsIn K d z = some (some (.ref t))) (q : Q (.ref t) H) : rIxD K w (.ref d) (.str z) H Q := g_ixK (v := .ref t) D e rfl q
/-- what .get asks behind its parts -/
def kKG3 (K : PySem.W.Frag) (d : Addr) (Q : VK) (y : V) : VK := fun z H3 => ∃ (k : Str) (r : Option Value) (v : V), y = .str k ∧ PySem.W.nsIn K d k = some r ∧ Here r v z ∧ Q v H3
def kKG1 (K : PySem.W.Frag) (d : Addr) (ty tx : TE) (σ : L2.St) (Q : VK) : VK := fun x H1 => x = .ref d ∧ ty σ H1 fun y H2 => tx σ H2 (kKG3 K d Q y)
instance : Step (tKGet K d td ty tx σ H Q) (td σ H (kKG1 K d ty tx σ Q)) := ⟨fun h => h⟩
instance : Step (kKG1 K d ty tx σ Q (.ref d) H) (ty σ H fun y H2 => tx σ H2 (kKG3 K d Q y)) := ⟨fun h => ⟨rfl, h⟩⟩
theorem g_kg {r : Option Value} {y : V} (e : PySem.W.nsIn K d z = some r) (hv : Here r v y) (q : Q v H) : kKG3 K d Q (.str z) y H := ⟨z, r, v, rfl, e, hv, q⟩
theorem g_kgR {t : Addr} {y : V} (e : PySem.W.nsIn K d z = some (some (.ref t))) (q : Q (.ref t) H) : kKG3 K d Q (.str z) y H := g_kg (v := .ref t) e (show L2.RelV (.ref t) (.ref t) from rfl) q
theorem g_kg0 {y : V} (e : PySem.W.nsIn K d z = some none) (q : Q y H) : kKG3 K d Q (.str z) y H := g_kg (v := y) e rfl q
theorem g_dnew (S : Sh H0 M H l) (q : ∀ p H', H p = none → Sh H0 M H' ((p, .dK [], true) :: l) → Q (.ref p) H') : tDNewK σ H Q := fun p hp => q p _ hp (S.new hp)
theorem g_setD {kvs kvs' : List (Key × V)} {P : Hp → Prop} (S : Sh H0 M H l) (r : Rep l p (.dK kvs) (.dK kvs') l') (hn : Nat.blt kvs.length 1000 = true) (e : putK kvs (.inr z) v = kvs') (q : ∀ H', Sh H0 M H' l' → P H') : rSetD (.ref p) (.str z) v H P := by
  subst e
  exact ⟨p, _, rfl, .inl ⟨kvs, .inr z, S.has _ r.mem, rfl, Nat.lt_trans (Nat.le_of_ble_eq_true hn) (small1000 (Nat.le_refl _)), rfl⟩, q _ (S.put r)⟩
end
/-- d[k] of a dict that stands in the heap -/
def kDG (Q : VK) (x : V) : VK := fun y H2 => ∃ a v, x = .ref a ∧ DGet H2 a y (some v) ∧ Q v H2
section
variable {K : PySem.W.Frag} {d a p : Addr} {H H0 : Hp} {M : Addr → Prop} {l l' : List Ent} {Q : VK} {z : Str} {xs : List V} {v : V} {σ : L2.St} {td ty tx : TE} {kvs : List (Key × V)}
instance : Step (tDGet td ty σ H Q) (td σ H fun x H1 => ty σ H1 (kDG Q x)) := ⟨fun h => h⟩
theorem g_dg (h : H a = some (.dK kvs)) (e : valV kvs (.inr z) = some v) (q : Q v H) : kDG Q (.ref a) (.str z) H := by
  refine ⟨a, v, rfl, ?_, q⟩
  rw [← e]
  exact DGet.k (k := .inr z) h
/-- dict(d) -/
def rDictD : List V → Hp → VK → Prop := fun xs H Q => ∃ (a : Addr) (kvs : List (Key × V)), xs = [.ref a] ∧ Rd H a (.dK kvs) ∧ ∀ p, H p = none → Q (.ref p) (upd H p (.dK kvs))
theorem cl_dictD {X : Cx} : CallR X (.type "dict") rDictD := call_dictD
theorem g_dictD (S : Sh H0 M H l) (h : H a = some (.dK kvs)) (q : ∀ p H', H p = none → Sh H0 M H' ((p, .dK kvs, true) :: l) → Q (.ref p) H') : rDictD [.ref a] H Q := ⟨a, kvs, rfl, .inl h, fun p hp => q p _ hp (S.new hp)⟩
end
end AF
/-! static methods called by their class -/
namespace AF
open PySem PySem.Spec PyProof.Rows L2
/-- C.m is a static method: its record at p, its def at g -/
structure SMet (K : PySem.W.Frag) (C : Addr) (m : Str) (p g : Addr) : Prop where
  rd : ClX.CRead K C (.type "type")
  at_ : PySem.W.findCls K (.ref C) (.type "type") m = some (.get (.builtin "staticmethod.__get__") (.ref p) .none (.ref C))
  rc : ∃ rest, PySem.W.recIn K p "staticmethod" = some (.ref g :: rest)
section
variable {X : Cx} {k : Nat} {C p g : Addr} {ps : List Str} {sp : Sp} {E : XK} {o e : Expr} {es : List Expr} {m x : Str} {pos apos p1 : Pos} {t : TA} {pl : Sem Bool}
theorem getsm_ok {A : Around} {E : Value → Shared → Prop} {pins : List (Addr × Obj)} {σ : L2.St} {H : Hp} {s : Shared} {Q : Value × List Value → Shared → Prop} (I : Inv X pins σ H s) (c : SMet X.K C m p g)
    (h : ∀ s', Inv X pins σ H s' → Q (.ref g, []) s') : wpAny (model X.prog X.w) A (getMethod (.ref C) m pl) Q E s := by
  obtain ⟨rest, hp⟩ := c.rc
  refine PySem.W.method_cls I.kIn c.rd.ga (PySem.W.cls_bind I.kIn c.rd.rd c.at_ ?_)
  exact wpAny_call (PySem.W.sm_get (s := { s with toks := s.toks + 1 }) I.kIn hp (PySem.W.handed_on rfl (h _ (I.tok _))))
theorem pe_sm (c : SMet X.K C m p g) (D : Dn X.prog X.w X.K X.mg X.base k g ps sp) (hr : Room k X.A) (hg : Gl X x) (hm : X.mg x = some (.ref C)) (hx : Passes (L2.CX X.prog X.w) X E) (ha : PA X (e :: es) t) (hdb : (x == ("__debug__" : Str)) = false := by decide)
    (hst : starEach (e :: es) X.env = (false, eval e X.env) :: starEach es X.env := by rfl) (hpl : (backTo pos (starEach es X.env)).any (·.1) = false := by rfl)
    (ht : eval (.Call (.Attribute (.Name x p1) m apos) (e :: es) [] pos) X.env = (do
      let ov ← eval (.Name x p1) X.env
      standAt apos.atName
      let (f, first) ← holding [ov] (getMethod ov m pl)
      callWith pos f first (backTo pos (starEach (e :: es) X.env)) (backToKw pos (keywordEach [] X.env))) := by rfl) :
    PE X (.Call (.Attribute (.Name x p1) m apos) (e :: es) [] pos) (tCall sp [] E t) := by
  obtain ⟨fd, F, b⟩ := D.ex
  refine ⟨fun pins s σ H Q I h => ?_⟩
  have hn : PE X (.Name x p1) (tC (.ref C)) := pe_glob (v := .ref C) hg hm rfl hdb
  refine PySem.W.methodCall_KW (pl := pl) (thn (hn.run pins s σ H (fun v H1 => v = .ref C ∧ tCall sp [] E t σ H1 Q) I ⟨rfl, h⟩) fun u s1 ⟨y, H1, I1, rx, ex, q⟩ => ?_) ht
  subst ex
  obtain rfl : u = Value.ref C := rx
  refine getsm_ok I1 c fun s2 I2 => ?_
  refine PySem.W.callWith_K (first := []) (h₀ := X.base) I.ok.mod.kin D.kp (thn (ha.run pos pins s2 σ H1 _ I2 q) fun us s3 ⟨vs, H2, I3, r, q2⟩ => ⟨I3.kIn, ?_⟩) hst hpl
  exact run_fn (us := us) (vs := vs) F hr b .nil hx I3 r q2
theorem pe_sm0 (c : SMet X.K C m p g) (D : Dn X.prog X.w X.K X.mg X.base k g [] sp) (hr : Room k X.A) (hg : Gl X x) (hm : X.mg x = some (.ref C)) (hx : Passes (L2.CX X.prog X.w) X E) (hdb : (x == ("__debug__" : Str)) = false := by decide)
    (ht : eval (.Call (.Attribute (.Name x p1) m apos) [] [] pos) X.env = (do
      let ov ← eval (.Name x p1) X.env
      standAt apos.atName
      let (f, first) ← holding [ov] (getMethod ov m pl)
      callWith pos f first (backTo pos (starEach [] X.env)) (backToKw pos (keywordEach [] X.env))) := by rfl) :
    PE X (.Call (.Attribute (.Name x p1) m apos) [] [] pos) (tCall sp [] E tNil) := by
  obtain ⟨fd, F, b⟩ := D.ex
  refine ⟨fun pins s σ H Q I h => ?_⟩
  have hn : PE X (.Name x p1) (tC (.ref C)) := pe_glob (v := .ref C) hg hm rfl hdb
  refine PySem.W.methodCall_KW (pl := pl) (thn (hn.run pins s σ H (fun v H1 => v = .ref C ∧ tCall sp [] E tNil σ H1 Q) I ⟨rfl, h⟩) fun u s1 ⟨y, H1, I1, rx, ex, q⟩ => ?_) ht
  subst ex
  obtain rfl : u = Value.ref C := rx
  refine getsm_ok I1 c fun s2 I2 => ?_
  exact PySem.W.callWith_K0 I2.kIn D.kp (run_fn (us := []) (vs := []) F hr b .nil hx I2 .nil q)
end
/-! the facts as truths -/
def smB (K : PySem.W.Frag) (C : Addr) (m : Str) (p g : Addr) : Bool := PySem.W.readsIn K C (.type "type") && (He.eqO (PySem.W.specialIn K (.ref C) "__getattribute__") (some (some (.builtin "type.__getattribute__"))) &&
  ((match PySem.W.findCls K (.ref C) (.type "type") m with
    | some (.get (.builtin b) (.ref q) .none (.ref D)) => decide (b = "staticmethod.__get__") && (decide (q = p) && decide (D = C))
    | _ => false) &&
  (match PySem.W.recIn K p "staticmethod" with
    | some (.ref a :: _) => decide (a = g)
    | _ => false)))
theorem smB_ok {K : PySem.W.Frag} {C p g : Addr} {m : Str} (h : smB K C m p g = true) : SMet K C m p g := by
  obtain ⟨h1, h⟩ := He.ba h
  obtain ⟨h2, h⟩ := He.ba h
  obtain ⟨h3, h4⟩ := He.ba h
  refine ⟨⟨h1, He.eqO_ok h2⟩, ?_, ?_⟩
  · split at h3
    · rename_i b q D e
      obtain ⟨a1, a⟩ := He.ba h3
      obtain ⟨a2, a3⟩ := He.ba a
      rw [e, of_decide_eq_true a1, of_decide_eq_true a2, of_decide_eq_true a3]
    · cases h3
  · split at h4
    · rename_i a r e
      rw [of_decide_eq_true h4] at e
      exact ⟨r, e⟩
    · cases h4
end AF
/-! own errors that keep one value -/
namespace AF
open PySem PySem.Spec PyProof.Rows L2
/-- __init__(self, f): self.f = f -/
def spErr (C : Addr) (f : Str) : Sp := fun vs H Q _ => ∃ (a : Addr) (v : V), vs = [.ref a, v] ∧ H a = some (exo a C none) ∧ ∀ d, H d = none → d ≠ a → Q .non (upd (upd H d (exd d [(f, v)])) a (exo a C (some d)))
theorem read_err {C : Addr} {K : PySem.W.Frag} {f : Str} {N : List Str} {vs : List V} {H : Hp} {Q : VK} {E : XK} {σ : L2.St} (T : OexC K C) (hno : PySem.W.findIn K (.ref C) f = some none) (h : spErr C f vs H Q E) (hσ : Ent0 N vs σ) (h0 : ∀ a v, vs = [V.ref a, v] → σ[0]? = some (some (.ref a)) ∧ σ[1]? = some (some v)) :
    tOst K f (tVar 0) (tVar 1) { nx := fun _ H' => Q .non H', rt := Q } (L2.start N vs) H := by
  obtain ⟨a, v, e, ha, k⟩ := h
  rw [hσ.eq]
  obtain ⟨h1, h2⟩ := h0 a v e
  exact ⟨v, h2, .ref a, h1, a, C, rfl, T, hno, .inl ⟨ha, fun d n1 n2 => k d n1 n2⟩⟩
structure Xn (P : Program) (w : World) (K : PySem.W.Frag) (mg : Str → Option Value) (base : Heap) (k : Nat) (C : Addr) (f : Str) : Prop where
  ex : ∃ fI fd ps, PySem.W.findIn K (.ref C) "__init__" = some (some (.ref fI)) ∧ PySem.W.typeIn K (.ref fI) = some (.type "function") ∧ FnOk P w K mg base (L2.CX P w) k fI fd ps (spErr C f) ∧ Binds K fd ps []
  ox : OexC K C
/-- raise X(e): what is asked behind e -/
def kErr (C : Addr) (f : Str) (W : WX) (σ : L2.St) (v : V) (H1 : Hp) : Prop := ([v] : List V).length ≤ 1000 ∧ ∀ a, H1 a = none → spErr C f (.ref a :: ([v] ++ [])) (upd H1 a (exo a C none))
  (fun u H2 => u = .non ∧ ∃ (d : Addr) (fs : List (Str × V)), H2 a = some (exo a C (some d)) ∧ H2 d = some (exd d fs) ∧ H1 d = none ∧ W (.ref C) (some d) σ (upd (del H2 a) d (.xd fs))) (fun _ _ _ => False)
def tErr (C : Addr) (f : Str) (te : TE) (W : WX) : TS := fun _ σ H => te σ H (kErr C f W σ)
theorem heap_back {H : Hp} {a d : Addr} {o1 o2 o3 o4 : HO} (ha : H a = none) : upd (del (upd (upd (upd H a o1) d o2) a o3) a) d o4 = upd H d o4 := by
  funext b
  by_cases hd : b = d
  · rw [hd, upd_same, upd_same]
  · rw [upd_ne hd, upd_ne hd]
    by_cases hb : b = a
    · rw [hb, del_same, ha]
    · rw [del_ne hb, upd_ne hb, upd_ne hd, upd_ne hb]
theorem g_kerr {C : Addr} {f : Str} {W : WX} {σ : L2.St} {v : V} {H1 : Hp} (q : ∀ d, H1 d = none → W (.ref C) (some d) σ (upd H1 d (.xd [(f, v)]))) : kErr C f W σ v H1 := by
  refine ⟨by simp, fun a ha => ⟨a, v, rfl, upd_same, fun d hd hda => ⟨rfl, d, [(f, v)], upd_same, ?_, ?_, ?_⟩⟩⟩
  · rw [upd_ne hda, upd_same]
  · rw [upd_ne hda] at hd; exact hd
  · rw [heap_back ha]
    rw [upd_ne hda] at hd
    exact q d hd
theorem ps_err {X : Cx} {k : Nat} {C : Addr} {f x : Str} {W : WX} {e : Expr} {te : TE} {p pos pos' : Pos} (D : Xn X.prog X.w X.K X.mg X.base k C f) (hr : Room (k + 1) X.A) (hc : X.calm = true) (tk : Takes X W) (hg : Gl X x) (hm : X.mg x = some (.ref C)) (hx : Passes (L2.CX X.prog X.w) X (fun _ _ _ => False))
    (he : PE X e te) (hst : starEach [e] X.env = (false, eval e X.env) :: starEach [] X.env := by rfl) (hpl : (backTo pos (starEach [] X.env)).any (·.1) = false := by rfl) (hdb : (x == ("__debug__" : Str)) = false := by decide) :
    PS X (.Raise (some (.Call (.Name x p) [e] [] pos)) none pos') (tErr C f te W) := by
  obtain ⟨fI, fd, ps, iC, tI, F, b⟩ := D.ex
  have mk := pmk_oex (pos := pos) (p := p) D.ox iC tI F hr b .nil hx hg hm (pa_cons he pa_nil hst) hdb hst hpl
  exact ps_raise (pos := pos') hc tk mk
/-- an error comes out: its dict is new, all else stays -/
def Err (C : Addr) (f : Str) (v : V) (H : Hp) (E : XK) : Prop := ∀ d H', H d = none → Ch [] H H' → H' d = some (.xd [(f, v)]) → E (.ref C) (some d) H'
theorem g_err {C : Addr} {f : Str} {W : WX} {σ : L2.St} {v : V} {H0 H : Hp} {l : List Ent} {M : Addr → Prop} (S : Sh H0 M H l) (q : ∀ d H', Sh H0 M H' ((d, .xd [(f, v)], true) :: l) → W (.ref C) (some d) σ H') : kErr C f W σ v H :=
  g_kerr fun d hd => q d _ (S.new hd)
instance {C : Addr} {f : Str} {te : TE} {W : WX} {D : Ends} {σ : L2.St} {H : Hp} : Step (tErr C f te W D σ H) (te σ H (kErr C f W σ)) := ⟨fun h => h⟩
theorem end_err {C d : Addr} {f : Str} {v : V} {H H' : Hp} {l : List Ent} {E : XK} (S : Sh H (fun _ => False) H' ((d, .xd [(f, v)], true) :: l)) (k : Err C f v H E) : E (.ref C) (some d) H' :=
  k d H' ((S.mu _ List.mem_cons_self rfl).elim False.elim id) (S.out fun _ h => h.elim) (S.has_ .here)
/-- facts of such a class -/
def tyB : Value → Bool
  | .type n => decide (n = "type")
  | _ => false
def veB : Option Value → Bool
  | some (.builtin n) => decide (n = "ValueError.__new__")
  | _ => false
def slB : List (Option Value) → Bool
  | [_, _, _, _, x, _] => veB x
  | _ => false
def mroB (C : Addr) : List Value → Bool
  | .ref a :: bm => decide (a = C) && PySem.HandSPX.refsVE bm
  | _ => false
def shapeB (C : Addr) : Option Obj → Bool
  | some ⟨cl, _, .cls cd, sl⟩ => tyB cl && (mroB C cd.mro && (cd.hasDict && (!cd.hasDel && slB sl.toList)))
  | _ => false
def oexB (K : PySem.W.Frag) (C : Addr) : Bool := shapeB C (K.lookup C) && (He.eqO (PySem.W.findIn K (.ref C) "__setattr__") (some (some (.builtin "object.__setattr__"))) && (decide (PySem.W.subIn K (.ref C) (.type "BaseException") = some true) &&
  (He.eqO (some (PySem.W.typeIn K (.ref C))) (some (some (.type "type"))) && PySem.W.keepIn K (.ref C))))
theorem shape_ok {C : Addr} {o : Option Obj} (h : shapeB C o = true) : ∃ nm q N bs bm sn sub ab col dd k0 k1 k2 k3 k5, o = some (excClassObj nm q C N bs bm true sn sub ab col dd k0 k1 k2 k3 k5 "ValueError.__new__") ∧ PySem.HandSPX.refsVE bm = true := by
  unfold shapeB at h
  split at h
  · rename_i cl dd cd sl
    obtain ⟨h1, h⟩ := He.ba h
    obtain ⟨h2, h⟩ := He.ba h
    obtain ⟨h3, h⟩ := He.ba h
    obtain ⟨h4, h5⟩ := He.ba h
    obtain ⟨nm, bs, mro, ns, qn, hd, sn, sb, ab, col, del⟩ := cd
    dsimp only at h2 h3 h4
    unfold tyB at h1
    split at h1
    · have e1 := of_decide_eq_true h1
      subst e1
      unfold mroB at h2
      split at h2
      · rename_i a bm
        obtain ⟨h6, h7⟩ := He.ba h2
        have e2 := of_decide_eq_true h6
        subst e2
        subst h3
        have e4 : del = false := by cases del <;> simp_all
        subst e4
        obtain ⟨sl⟩ := sl
        change slB sl = true at h5
        unfold slB at h5
        split at h5
        · rename_i k0 k1 k2 k3 x k5
          unfold veB at h5
          split at h5
          · have e5 := of_decide_eq_true h5
            subst e5
            exact ⟨_, _, _, _, _, _, _, _, _, _, _, _, _, _, _, rfl, h7⟩
          · cases h5
        · cases h5
      · cases h2
    · cases h1
  · cases h
theorem oexB_ok {K : PySem.W.Frag} {C : Addr} (h : oexB K C = true) : OexC K C := by
  obtain ⟨h1, h⟩ := He.ba h
  obtain ⟨h2, h⟩ := He.ba h
  obtain ⟨h3, h⟩ := He.ba h
  obtain ⟨h4, h5⟩ := He.ba h
  exact ⟨shape_ok h1, He.eqO_ok h2, of_decide_eq_true h3, Option.some.inj (He.eqO_ok h4), h5⟩
end AF
/-! o[k] by an own def, a call of an own instance, items of a new dict -/
namespace AF
open PySem PySem.Spec PyProof.Rows L2
open PySem.W (Looks InstAt)
/-- C's __getitem__ is the def at f -/
structure GI (K : PySem.W.Frag) (C f : Addr) : Prop where
  nq : PySem.W.noSeq K C = true
  hs : PySem.W.findIn K (.ref C) "__getitem__" = some (some (.ref f))
  hf : PySem.W.isFn K (.ref f) = true
  hn : PySem.W.fnIn K f = true
/-- C's __call__ is the def at f -/
structure CI (K : PySem.W.Frag) (C f : Addr) : Prop where
  hs : PySem.W.findIn K (.ref C) "__call__" = some (some (.ref f))
  hf : PySem.W.isFn K (.ref f) = true
  hn : PySem.W.fnIn K f = true
def rGI (C : Addr) (sp : Sp) (E : XK) : R2 := fun x y H Q => ∃ a dx fs, x = .ref a ∧ H a = some (.ins C dx fs) ∧ sp [x, y] H Q E
section
variable {X : Cx} {k : Nat} {f C : Addr} {ps : List Str} {sp : Sp} {E : XK} {pos : Pos} {ea eb : Expr} {ta tb : TE}
theorem pe_ixo (D : Dn X.prog X.w X.K X.mg X.base k f ps sp) (B : GI X.K C f) (hr : Room (k + 1) X.A) (hx : Passes (L2.CX X.prog X.w) X E) (ha : PE X ea ta) (hb : PE X eb tb)
    (hs : ∀ v u, subscripted eb true v u = runValue (.builtin "lifetime.subscript" ⟨[v, u], []⟩) := by intro _ _; with_unfolding_all rfl) : PE X (.Subscript ea eb pos) (tOp (rGI C sp E) ta tb) := by
  obtain ⟨fd, F, b⟩ := D.ex
  refine ⟨fun pins s σ H Q I h => ?_⟩
  refine Subscript_ (binT ha hb I h fun v u s2 x y H2 I2 rx ry q => ?_)
  obtain ⟨p, dx, fs, rfl, ho, q⟩ := q
  cases rx
  obtain ⟨mA, J, _⟩ := ins_get I2.hok ho
  obtain ⟨od, J, _⟩ := J.look
  obtain ⟨m, hF⟩ := I2.fr
  have hl := F.len _ _ _ _ q
  have rv : Vals [V.ref p, y] [Value.ref p, u] := .cons rfl (.cons ry .nil)
  refine PySem.W.sub_K hF I2.ok.mod.kin J B.hs B.hn B.hf ?_ (hs _ _)
  refine wpAny_call (codeAny_mono (F.run X.A.in1 X.stack s2 H2 ⟨[.ref p, u], []⟩ [.ref p, u] [.ref p, y] Q E hr.in1 I2.env0.in1 (by
      have := b s2 [.ref p, u] I2.kIn (by simpa using hl)
      simpa using this) rv q) fun r s' hq => ?_)
  cases r with
  | error e => exact hx pins σ H2 s2 e s' I2 hq
  | ok fl =>
    cases fl with
    | ret w => exact I2.after hq
    | next => exact False.elim hq
    | brk => exact False.elim hq
    | cont => exact False.elim hq
end
/-! calls of own instances -/
section
variable {M : Model} {A : Around} {E : Value → Shared → Prop} {s : Shared} {pos : Pos} {x : Addr} {Q : Value → Shared → Prop}
theorem inst_callWith {args : List (Bool × Sem Value)} (hplain : (args.any (·.1) || ([] : List (Option Str × Sem Value)).any (·.1.isNone)) = false)
    (h : wpAny M A (evalArgs (.ref x) true args []) (fun a s₁ => Looks M s₁.heap (keeperOf (.ref x)) .caller ∧ wpAny M A (call (.ref x) a.pos a.kw) Q E s₁) E s) : wpAny M A (callWith pos (.ref x) [] args []) Q E s := by
  unfold callWith
  refine wpAny_bind (wpAny_holding (wpAny_mono h (fun a s₁ h₁ => wpAny_bind (wpAny_standAt ?_)) fun _ _ y => y))
  have L := h₁.1
  simp only [hplain]
  refine wpAny_bind (L.here ?_)
  have tail : ∀ {t : Sem Value}, wpAny M A t Q E s₁ → wpAny M A (t >>= fun r => holding [r] point >>= fun _ => pure r) Q E s₁ :=
    fun ht => wpAny_bind (wpAny_mono ht (fun r s₂ hr => wpAny_bind (wpAny_holding (wpAny_point (wpAny_pure hr)))) fun _ _ y => y)
  exact tail (wpAny_operateT h₁.2)
end
section
variable {X : Cx} {k i : Nat} {f C : Addr} {ps : List Str} {sp : Sp} {E : XK} {pos apos p : Pos} {e o : Expr} {es : List Expr} {x m : Str} {ta : TE} {t : TA}
theorem run_inst {pins : List (Addr × Obj)} {σ : L2.St} {H : Hp} {s : Shared} {Q : VK} {us : List Value} {vs : List V} {a dx : Addr} {fs : List (Str × V)} (D : Dn X.prog X.w X.K X.mg X.base k f ps sp) (c : CI X.K C f) (hr : Room k X.A)
    (hx : Passes (L2.CX X.prog X.w) X E) (I : Inv X pins σ H s) (ho : H a = some (.ins C dx fs)) (r : Vals vs us) (h : sp (.ref a :: vs) H Q E) : wpAny (model X.prog X.w) X.A (call (.ref a) us []) (EP X pins σ Q) X.xe s := by
  obtain ⟨fd, F, b⟩ := D.ex
  obtain ⟨mA, J, _⟩ := ins_get I.hok ho
  obtain ⟨od, J, _⟩ := J.look
  have rr : Vals (V.ref a :: vs) (Value.ref a :: us) := .cons rfl r
  have hl : (Value.ref a :: us).length = ps.length := by rw [← rr.length]; exact F.len _ _ _ _ h
  refine wpAny_call (PySem.W.kco_code I.kIn J rfl c.hs c.hf c.hn (codeAny_mono (F.run X.A X.stack s H ⟨.ref a :: us, []⟩ (.ref a :: us) (.ref a :: vs) Q E hr I.env0 (by
      have := b s (.ref a :: us) I.kIn (by simpa using hl)
      simpa using this) rr h) fun r s' hq => ?_))
  cases r with
  | error e => exact hx pins σ H s e s' I hq
  | ok fl =>
    cases fl with
    | ret u => exact I.after hq
    | next => exact False.elim hq
    | brk => exact False.elim hq
    | cont => exact False.elim hq
theorem inst_keeper {pins : List (Addr × Obj)} {σ : L2.St} {H : Hp} {s : Shared} {M : Model} {a dx : Addr} {fs : List (Str × V)} (I : Inv X pins σ H s) (ho : H a = some (.ins C dx fs)) : Looks M s.heap (keeperOf (.ref a)) .caller := by
  obtain ⟨mA, J, _⟩ := ins_get I.hok ho
  obtain ⟨od, J, _⟩ := J.look
  exact PySem.W.kco_keeper J rfl
/-- an instance is called -/
def kCI (C : Addr) (sp : Sp) (E : XK) (t : TA) (σ : L2.St) (Q : VK) (x : V) (H : Hp) : Prop := ∃ a, x = .ref a ∧ t σ H fun vs H2 => (∃ dx fs, H2 a = some (.ins C dx fs)) ∧ sp (.ref a :: vs) H2 Q E
def tCI (C : Addr) (sp : Sp) (E : XK) (ta : TE) (t : TA) : TE := fun σ H Q => ta σ H (kCI C sp E t σ Q)
theorem inst_go {pins : List (Addr × Obj)} {σ : L2.St} {H : Hp} {s : Shared} {Q : VK} {a : Addr} (D : Dn X.prog X.w X.K X.mg X.base k f ps sp) (c : CI X.K C f) (hr : Room k X.A) (hx : Passes (L2.CX X.prog X.w) X E) (ha : PA X (e :: es) t) (I : Inv X pins σ H s)
    (hst : starEach (e :: es) X.env = (false, eval e X.env) :: starEach es X.env) (hpl : (backTo pos (starEach es X.env)).any (·.1) = false)
    (q : t σ H fun vs H2 => (∃ dx fs, H2 a = some (.ins C dx fs)) ∧ sp (.ref a :: vs) H2 Q E) :
    wpAny (model X.prog X.w) X.A (callWith pos (.ref a) [] (backTo pos (starEach (e :: es) X.env)) []) (EP X pins σ Q) X.xe s := by
  have hs : wpAny (model X.prog X.w) X.A (spliced (backTo pos (starEach (e :: es) X.env))) (fun us s1 => Looks (model X.prog X.w) s1.heap (keeperOf (.ref a)) .caller ∧ wpAny (model X.prog X.w) X.A (call (.ref a) us []) (EP X pins σ Q) X.xe s1) X.xe s :=
    thn (ha.run pos pins s σ H _ I q) fun us s1 ⟨vs, H2, I2, r, ⟨dx, fs, ho⟩, q2⟩ => ⟨inst_keeper I2 ho, run_inst D c hr hx I2 ho r q2⟩
  rw [hst] at hs ⊢
  exact inst_callWith (by show ((false || (backTo pos (starEach es X.env)).any (·.1)) || false) = false; rw [hpl]; rfl) (Calls.evalArgs_plain hs)
theorem pe_ci (D : Dn X.prog X.w X.K X.mg X.base k f ps sp) (c : CI X.K C f) (hr : Room k X.A) (hx : Passes (L2.CX X.prog X.w) X E) (he : PE X (.Name x p) ta) (ha : PA X (e :: es) t)
    (hst : starEach (e :: es) X.env = (false, eval e X.env) :: starEach es X.env := by rfl) (hpl : (backTo pos (starEach es X.env)).any (·.1) = false := by rfl) : PE X (.Call (.Name x p) (e :: es) [] pos) (tCI C sp E ta t) := by
  refine ⟨fun pins s σ H Q I h => ?_⟩
  refine wpAny_Call_Name_kw (thn (he.run pins s σ H _ I h) fun u s1 ⟨y, H1, I1, r1, a, ey, q1⟩ => ?_)
  subst ey
  cases r1
  exact inst_go D c hr hx ha I1 hst hpl q1
/-- .. that is a field -/
def kCF (m : Str) (C : Addr) (sp : Sp) (E : XK) (t : TA) (σ : L2.St) (Q : VK) (C1 : Addr) (x : V) (H : Hp) : Prop := ∃ b dx fs v, x = .ref b ∧ H b = some (.ins C1 dx fs) ∧ fs.lookup m = some v ∧ kCI C sp E t σ Q v H
def tCF (m : Str) (C1 C : Addr) (sp : Sp) (E : XK) (ta : TE) (t : TA) : TE := fun σ H Q => ta σ H (kCF m C sp E t σ Q C1)
theorem pe_cf {pl : Sem Bool} {C1 : Addr} (D : Dn X.prog X.w X.K X.mg X.base k f ps sp) (c : CI X.K C f) (hr : Room k X.A) (hx : Passes (L2.CX X.prog X.w) X E) (c1 : Cls X.K C1) (n1 : NoAttr X.K C1 m) (he : PE X o ta) (ha : PA X (e :: es) t)
    (hst : starEach (e :: es) X.env = (false, eval e X.env) :: starEach es X.env := by rfl) (hpl : (backTo pos (starEach es X.env)).any (·.1) = false := by rfl)
    (ht : eval (.Call (.Attribute o m apos) (e :: es) [] pos) X.env = (do
      let ov ← eval o X.env
      standAt apos.atName
      let (f, first) ← holding [ov] (getMethod ov m pl)
      callWith pos f first (backTo pos (starEach (e :: es) X.env)) (backToKw pos (keywordEach [] X.env))) := by rfl) : PE X (.Call (.Attribute o m apos) (e :: es) [] pos) (tCF m C1 C sp E ta t) := by
  refine ⟨fun pins s σ H Q I h => ?_⟩
  refine PySem.W.methodCall_KW (pl := pl) (thn (he.run pins s σ H _ I h) fun u s1 ⟨y, H1, I1, ry, b, dx, fs, v, ey, ho, hl, q⟩ => ?_) ht
  subst ey
  cases ry
  refine getmeth_fld I1 ho c1 n1 hl fun u s2 I2 rv => ?_
  obtain ⟨a, ev, q⟩ := q
  subst ev
  cases rv
  exact inst_go D c hr hx ha I2 hst hpl q
section
variable {σ : L2.St} {H : Hp} {Q : VK} {a b dx C1 : Addr} {fs : List (Str × V)} {v : V}
instance : Step (tCI C sp E ta t σ H Q) (ta σ H (kCI C sp E t σ Q)) := ⟨fun h => h⟩
instance : Step (tCF m C1 C sp E ta t σ H Q) (ta σ H (kCF m C sp E t σ Q C1)) := ⟨fun h => h⟩
theorem g_kci (q : t σ H fun vs H2 => (∃ dx fs, H2 a = some (.ins C dx fs)) ∧ sp (.ref a :: vs) H2 Q E) : kCI C sp E t σ Q (.ref a) H := ⟨a, rfl, q⟩
theorem g_kcf (ho : H b = some (.ins C1 dx fs)) (hl : fs.lookup m = some v) (q : kCI C sp E t σ Q v H) : kCF m C sp E t σ Q C1 (.ref b) H := ⟨b, dx, fs, v, rfl, ho, hl, q⟩
end
end
/-! the items of a dict that is looked at and not written any more -/
def kLk (Q : VK) (x : V) (H : Hp) : Prop := ∃ d kvs, x = .ref d ∧ H d = some (.dK kvs) ∧ ∀ od, Q (.ref d) (upd H d (.frz od (.dK kvs)))
def tLk (td : TE) : TE := fun σ H Q => td σ H (kLk Q)
section
variable {X : Cx} {e : Expr} {td : TE}
theorem pe_lk (h : PE X e td) : PE X e (tLk td) := by
  refine ⟨fun pins s σ H Q I hw => ?_⟩
  refine thn (h.run pins s σ H _ I hw) fun v s1 ⟨x, H1, I1, r, d, kvs, ex, hd, q⟩ => ?_
  subst ex
  obtain ⟨od, I2⟩ := I1.lock hd True.intro
  exact ⟨_, _, I2, r, q od⟩
theorem g_lk {H0 H : Hp} {M : Addr → Prop} {l : Obj → List Ent} {l0 : List Ent} {d : Addr} {kvs : List (Key × V)} {Q : VK} (S : Sh H0 M H l0) (r : ∀ od, Rep l0 d (.dK kvs) (.frz od (.dK kvs)) (l od)) (q : ∀ od H', Sh H0 M H' (l od) → Q (.ref d) H') : kLk Q (.ref d) H :=
  ⟨d, kvs, rfl, S.has _ (r ⟨.type "dict", none, .plain, #[]⟩).mem, fun od => q od _ (S.put (r od))⟩
instance {σ : L2.St} {H : Hp} {Q : VK} : Step (tLk td σ H Q) (td σ H (kLk Q)) := ⟨fun h => h⟩
/-- .. by the steps: d stays so, item by item -/
def EachI (g : TG) (tb : TS) (D : Ends) (d : Addr) (u : HO) : List (Key × V) → L2.St → Hp → Prop
  | [] => fun σ H => H d = some u ∧ D.nx σ H
  | (k, v) :: r => fun σ H => H d = some u ∧ ∀ T, H T = none → g (.ref T) σ (upd H T (.tup [kV k, v])) fun σ2 H2 => tb { D with nx := EachI g tb D d u r, ct := EachI g tb D d u r, bk := D.nx } σ2 H2
theorem eachI_frz {g : TG} {tb : TS} {D : Ends} {d : Addr} {u : HO} {σ : L2.St} {H : Hp} : ∀ {l : List (Key × V)}, EachI g tb D d u l σ H → H d = some u
  | [], h => h.1
  | _ :: _, h => h.1
def kIt (g : TG) (tb : TS) (D : Ends) (σ : L2.St) (x : V) (H1 : Hp) : Prop := ∃ d o kvs, x = .ref d ∧ H1 d = some (.frz o (.dK kvs)) ∧ ∃ W : Nat → Nat → L2.St → Hp → Prop, (∃ m, W 0 m σ H1) ∧ ∀ i m σ H, W i m σ H →
  ((Iti d o kvs).stop i H ∧ D.nx σ H) ∨ ((Iti d o kvs).go i H ∧ ∃ N : L2.St → Hp → Prop, (∀ σ' H', N σ' H' → ∃ m', m' < m ∧ W (i + 1) m' σ' H') ∧ ∀ x H', (Iti d o kvs).yld i H x H' → g x σ H' fun σ2 H2 => tb { D with nx := N, ct := N, bk := D.nx } σ2 H2)
instance {g : TG} {tb : TS} {D : Ends} {σ : L2.St} {H : Hp} : Step (tFor (iItems (tLk td)) g tb D σ H) (td σ H (kLk (kIt g tb D σ))) := ⟨fun h => h⟩
theorem g_it {g : TG} {tb : TS} {D : Ends} {σ : L2.St} {H : Hp} {d : Addr} {o : Obj} {kvs : List (Key × V)} (hd : H d = some (.frz o (.dK kvs))) (q : EachI g tb D d (.frz o (.dK kvs)) kvs σ H) : kIt g tb D σ (.ref d) H := by
  refine ⟨d, o, kvs, rfl, hd, fun i m σ H => m = kvs.length - i ∧ i ≤ kvs.length ∧ EachI g tb D d (.frz o (.dK kvs)) (kvs.drop i) σ H, ⟨kvs.length, by simp, Nat.zero_le _, q⟩, ?_⟩
  rintro i m σ H ⟨rfl, hi, p⟩
  have hf := eachI_frz p
  by_cases hlt : i < kvs.length
  · refine .inr ⟨⟨hf, hlt⟩, fun σ' H' => EachI g tb D d (.frz o (.dK kvs)) (kvs.drop (i + 1)) σ' H', fun σ' H' p' => ⟨kvs.length - (i + 1), by omega, rfl, hlt, p'⟩, fun x H' y => ?_⟩
    obtain ⟨T, k, v, e, rfl, hT, rfl⟩ := y
    obtain ⟨hi', e2⟩ := List.getElem?_eq_some_iff.mp e
    rw [List.drop_eq_getElem_cons hlt, e2] at p
    exact p.2 T hT
  · have e : i = kvs.length := by omega
    subst e
    rw [List.drop_length] at p
    exact .inl ⟨⟨hf, Nat.le_refl _⟩, p.2⟩
theorem g_each1 {g : TG} {tb : TS} {nx bk ct : L2.St → Hp → Prop} {rt : VK} {σ : L2.St} {H0 H : Hp} {M : Addr → Prop} {l : List Ent} {d : Addr} {u : HO} {k : Key} {v : V} {r : List (Key × V)} (S : Sh H0 M H l) (hd : H d = some u)
    (q : ∀ T H', Sh H0 M H' ((T, .tup [kV k, v], true) :: l) → g (.ref T) σ H' fun σ2 H2 => tb ⟨EachI g tb ⟨nx, rt, bk, ct⟩ d u r, rt, nx, EachI g tb ⟨nx, rt, bk, ct⟩ d u r⟩ σ2 H2) : EachI g tb ⟨nx, rt, bk, ct⟩ d u ((k, v) :: r) σ H :=
  ⟨hd, fun T hT => q T _ (S.new hT)⟩
theorem g_each0 {g : TG} {tb : TS} {nx bk ct : L2.St → Hp → Prop} {rt : VK} {σ : L2.St} {H : Hp} {d : Addr} {u : HO} (hd : H d = some u) (q : nx σ H) : EachI g tb ⟨nx, rt, bk, ct⟩ d u [] σ H := ⟨hd, q⟩
theorem g_tup2 {σ σ1 σ2 : L2.St} {H : Hp} {K : PySem.W.Frag} {p : Addr} {x y : V} {i j : Nat} {P : L2.St → Hp → Prop} [h1 : SetI σ i x σ1] [h2 : SetI σ1 j y σ2] (h : H p = some (.tup [x, y])) (q : P σ2 H) :
    gTup K 2 (gCons (gName i) (gCons (gName j) gNil)) (.ref p) σ H P := by
  refine ⟨p, _, rfl, SqT.of h, rfl, x, _, rfl, y, _, rfl, rfl, ?_⟩
  rw [h1.eq, h2.eq]
  exact q
/-! {k: v for a, b in d.items()} of a dict that is looked at alone -/
def EachC (g : TG) (tt : TT) (tk tv : TE) (vs : List Nat) (σ : L2.St) (Q : VK) (D d : Addr) (u : HO) : List (Key × V) → Hp → Prop
  | [] => fun H => H d = some u ∧ Q (.ref D) H
  | (k, v) :: r => fun H => H d = some u ∧ ∀ T, H T = none → g (.ref T) (wipe σ vs) (upd H T (.tup [kV k, v])) fun σ2 H2 => wipe σ2 vs = wipe σ vs ∧ tt σ2 H2 fun b H3 =>
      if b = true then tk σ2 H3 fun y H4 => tv σ2 H4 fun z H5 => ∃ kvs k, y = kV k ∧ H5 D = some (.dK kvs) ∧ kvs.length < sizeLine ∧ EachC g tt tk tv vs σ Q D d u r (upd H5 D (.dK (putK kvs k z))) else EachC g tt tk tv vs σ Q D d u r H3
theorem eachC_frz {g : TG} {tt : TT} {tk tv : TE} {vs : List Nat} {σ : L2.St} {Q : VK} {D d : Addr} {u : HO} {H : Hp} : ∀ {l : List (Key × V)}, EachC g tt tk tv vs σ Q D d u l H → H d = some u
  | [], h => h.1
  | _ :: _, h => h.1
def kDc (g : TG) (tt : TT) (tk tv : TE) (vs : List Nat) (σ : L2.St) (Q : VK) (x : V) (H1 : Hp) : Prop := ∃ d o kvs, x = .ref d ∧ H1 d = some (.frz o (.dK kvs)) ∧ ∀ D, H1 D = none → ∃ W : Nat → Nat → Hp → Prop, (∃ m, W 0 m (upd H1 D (.dK []))) ∧ ∀ i m H, W i m H →
  ((Iti d o kvs).stop i H ∧ Q (.ref D) H) ∨ ((Iti d o kvs).go i H ∧ ∃ Nx : Hp → Prop, (∀ H', Nx H' → ∃ m', m' < m ∧ W (i + 1) m' H') ∧ ∀ x H', (Iti d o kvs).yld i H x H' → g x (wipe σ vs) H' fun σ2 H2 => wipe σ2 vs = wipe σ vs ∧ tt σ2 H2 fun b H3 =>
    if b = true then tk σ2 H3 fun y H4 => tv σ2 H4 fun z H5 => ∃ kvs k, y = kV k ∧ H5 D = some (.dK kvs) ∧ kvs.length < sizeLine ∧ Nx (upd H5 D (.dK (putK kvs k z))) else Nx H3)
instance {g : TG} {tt : TT} {tk tv : TE} {vs : List Nat} {σ : L2.St} {H : Hp} {Q : VK} : Step (tDc (iItems (tLk td)) g tt tk tv vs σ H Q) (td σ H (kLk (kDc g tt tk tv vs σ Q))) := ⟨fun h => h⟩
theorem g_dc {g : TG} {tt : TT} {tk tv : TE} {vs : List Nat} {σ : L2.St} {H0 H : Hp} {M : Addr → Prop} {l : List Ent} {Q : VK} {d : Addr} {o : Obj} {kvs : List (Key × V)} (S : Sh H0 M H l) (hd : H d = some (.frz o (.dK kvs)))
    (q : ∀ D H', Sh H0 M H' ((D, .dK [], true) :: l) → EachC g tt tk tv vs σ Q D d (.frz o (.dK kvs)) kvs H') : kDc g tt tk tv vs σ Q (.ref d) H := by
  refine ⟨d, o, kvs, rfl, hd, fun D hD => ⟨fun i m H => m = kvs.length - i ∧ i ≤ kvs.length ∧ EachC g tt tk tv vs σ Q D d (.frz o (.dK kvs)) (kvs.drop i) H, ⟨kvs.length, by simp, Nat.zero_le _, q D _ (S.new hD)⟩, ?_⟩⟩
  rintro i m H ⟨rfl, hi, p⟩
  have hf := eachC_frz p
  by_cases hlt : i < kvs.length
  · refine .inr ⟨⟨hf, hlt⟩, fun H' => EachC g tt tk tv vs σ Q D d (.frz o (.dK kvs)) (kvs.drop (i + 1)) H', fun H' p' => ⟨kvs.length - (i + 1), by omega, rfl, hlt, p'⟩, fun x H' y => ?_⟩
    obtain ⟨T, k, v, e, rfl, hT, rfl⟩ := y
    obtain ⟨hi', e2⟩ := List.getElem?_eq_some_iff.mp e
    rw [List.drop_eq_getElem_cons hlt, e2] at p
    exact p.2 T hT
  · have e : i = kvs.length := by omega
    subst e
    rw [List.drop_length] at p
    exact .inl ⟨⟨hf, Nat.le_refl _⟩, p.2⟩
class ClrI (σ : L2.St) (i : Nat) (σ' : outParam L2.St) : Prop where
  eq : σ.set i none = σ'
instance {o : Option V} {r : L2.St} : ClrI (o :: r) 0 (none :: r) := ⟨rfl⟩
instance {o : Option V} {r r' : L2.St} {i : Nat} [h : ClrI r i r'] : ClrI (o :: r) (i + 1) (o :: r') := ⟨by rw [List.set_cons_succ, h.eq]⟩
/-- one turn, its two names in slots i and j -/
def kPut (D : Addr) (P : Hp → Prop) (y : V) (z : V) (H5 : Hp) : Prop := ∃ kvs k, y = kV k ∧ H5 D = some (.dK kvs) ∧ kvs.length < sizeLine ∧ P (upd H5 D (.dK (putK kvs k z)))
theorem g_eachC1 {K : PySem.W.Frag} {i j : Nat} {tk tv : TE} {σ σa σb σ1 σ2 : L2.St} {H0 H : Hp} {M : Addr → Prop} {l : List Ent} {Q : VK} {D d : Addr} {u : HO} {k : Key} {v : V} {r : List (Key × V)} [w1 : ClrI σ j σa] [w2 : ClrI σa i σb] [h1 : SetI σb i (kV k) σ1] [h2 : SetI σ1 j v σ2] (hw : wipe σ2 [i, j] = wipe σ [i, j])
    (S : Sh H0 M H l) (hd : H d = some u)
    (q : ∀ T H', Sh H0 M H' ((T, .tup [kV k, v], true) :: l) → tk σ2 H' fun y H4 => tv σ2 H4 (kPut D (EachC (gTup K 2 (gCons (gName i) (gCons (gName j) gNil))) tYes tk tv [i, j] σ Q D d u r) y)) :
    EachC (gTup K 2 (gCons (gName i) (gCons (gName j) gNil))) tYes tk tv [i, j] σ Q D d u ((k, v) :: r) H := by
  have e : wipe σ [i, j] = σb := by
    show (σ.set j none).set i none = σb
    rw [w1.eq, w2.eq]
  refine ⟨hd, fun T hT => ?_⟩
  rw [e] at hw ⊢
  refine g_tup2 (x := kV k) (y := v) upd_same ⟨hw, ?_⟩
  exact iteT (B := EachC (gTup K 2 (gCons (gName i) (gCons (gName j) gNil))) tYes tk tv [i, j] σ Q D d u r (upd H T (.tup [kV k, v]))) (q T _ (S.new hT))
theorem g_eachC0 {g : TG} {tt : TT} {tk tv : TE} {vs : List Nat} {σ : L2.St} {Q : VK} {D d : Addr} {u : HO} {H : Hp} (hd : H d = some u) (q : Q (.ref D) H) : EachC g tt tk tv vs σ Q D d u [] H := ⟨hd, q⟩
theorem g_kput {H0 H : Hp} {M : Addr → Prop} {l l' : List Ent} {D : Addr} {P : Hp → Prop} {kvs kvs' : List (Key × V)} {s : Str} {z : V} (S : Sh H0 M H l) (r : Rep l D (.dK kvs) (.dK kvs') l') (hn : Nat.blt kvs.length 1000 = true) (e : putK kvs (.inr s) z = kvs') (q : ∀ H', Sh H0 M H' l' → P H') : kPut D P (.str s) z H := by
  subst e
  exact ⟨_, .inr s, rfl, S.has _ r.mem, Nat.lt_trans (Nat.le_of_ble_eq_true hn) (small1000 (Nat.le_refl _)), q _ (S.put r)⟩
end
/-- list(d) -/
def rListK : List V → Hp → VK → Prop := fun xs H Q => ∃ (a : Addr) (kvs : List (Key × V)), xs = [.ref a] ∧ Rd H a (.dK kvs) ∧ ∀ p, H p = none → Q (.ref p) (upd H p (.lst (kvs.map fun kv => kV kv.1)))
theorem cl_listK {X : Cx} (hc : X.calm = true) : CallR X (.type "list") rListK := call_listD hc
theorem g_listKf {H0 H : Hp} {M : Addr → Prop} {l : List Ent} {Q : VK} {a : Addr} {o : Obj} {kvs : List (Key × V)} (S : Sh H0 M H l) (h : H a = some (.frz o (.dK kvs))) (q : ∀ p H', H p = none → Sh H0 M H' ((p, .lst (kvs.map fun kv => kV kv.1), true) :: l) → Q (.ref p) H') : rListK [.ref a] H Q :=
  ⟨a, kvs, rfl, .inr ⟨o, h⟩, fun p hp => q p _ hp (S.new hp)⟩
/-- == of two dicts that are equal -/
theorem op_eqDA {X : Cx} (hu : X.A.units < cLine) : OpR X (compareOp .Eq) rEqDA := op_eq_dictA hu
theorem g_eqDA {H : Hp} {Q : VK} {a b : Addr} {ks : List (Key × V)} (ha : H a = some (.dK ks)) (hb : H b = some (.dK ks)) (hp : ∀ p ∈ ks, valV ks p.1 = some p.2 ∧ flatB p.2 = true) (q : Q (.bl true) H) : rEqDA (.ref a) (.ref b) H Q := ⟨a, b, ks, ks, rfl, rfl, ha, hb, rfl, hp, q⟩
theorem g_eqN {H : Hp} {Q : VK} (q : Q (.bl true) H) : rEq .non .non H Q := ⟨rfl, by simpa using q⟩
instance {C : Addr} {sp : Sp} {E : XK} {H : Hp} {Q : VK} {y : V} {a : Addr} : Step (rGI C sp E (.ref a) y H Q) (∃ dx fs, H a = some (.ins C dx fs) ∧ sp [.ref a, y] H Q E) := ⟨fun ⟨dx, fs, h, q⟩ => ⟨a, dx, fs, rfl, h, q⟩⟩
/-! the facts as truths -/
def giB (K : PySem.W.Frag) (C f : Addr) : Bool := PySem.W.noSeq K C && (He.eqO (PySem.W.findIn K (.ref C) "__getitem__") (some (some (.ref f))) && (PySem.W.isFn K (.ref f) && PySem.W.fnIn K f))
theorem giB_ok {K : PySem.W.Frag} {C f : Addr} (h : giB K C f = true) : GI K C f := by
  obtain ⟨h1, h⟩ := He.ba h
  obtain ⟨h2, h⟩ := He.ba h
  obtain ⟨h3, h4⟩ := He.ba h
  exact ⟨h1, He.eqO_ok h2, h3, h4⟩
def ciB (K : PySem.W.Frag) (C f : Addr) : Bool := He.eqO (PySem.W.findIn K (.ref C) "__call__") (some (some (.ref f))) && (PySem.W.isFn K (.ref f) && PySem.W.fnIn K f)
theorem ciB_ok {K : PySem.W.Frag} {C f : Addr} (h : ciB K C f = true) : CI K C f := by
  obtain ⟨h2, h⟩ := He.ba h
  obtain ⟨h3, h4⟩ := He.ba h
  exact ⟨He.eqO_ok h2, h3, h4⟩
end AF
/-! loops over a short list, small dict displays, a, b, c = x, y, z; objects made with a part of their own -/
namespace AF
open PySem PySem.Spec PyProof.Rows L2
section
variable {K : PySem.W.Frag} {H0 H H' : Hp} {M : Addr → Prop} {l l' : List Ent} {p q : Addr} {o o' o2 : HO}
/-- p is changed, q is new -/
theorem Sh.ch1n (S : Sh H0 M H l) (r : Rep l p o o' l') (c : Ch [p] H H') (h : H' p = some o') (hn : H q = none) (hq : H' q = some o2) : Sh H0 M H' ((q, o2, true) :: l') := by
  have S' := S.ch1 r c h
  refine ⟨S'.fr, fun e he => ?_, ?_, fun e he hm => ?_⟩
  · rcases List.mem_cons.mp he with h1 | h1
    · rw [h1]; exact hq
    · exact S'.has e h1
  · rw [List.map_cons, List.pairwise_cons]
    refine ⟨fun t ht _ z => ?_, S'.ap⟩
    rw [r.tags] at ht
    obtain ⟨e, he, rfl⟩ := List.mem_map.mp ht
    have z' : q = e.1 := z
    have := S.has e he
    rw [← z', hn] at this; cases this
  · rcases List.mem_cons.mp he with h1 | h1
    · rw [h1]
      by_cases k : M q
      · exact .inl k
      · refine .inr ?_
        cases e0 : H0 q with
        | none => rfl
        | some u => rw [S.fr q u e0 k] at hn; cases hn
    · exact S'.mu e h1 hm
/-- two are changed -/
theorem Sh.ch2 {l2 : List Ent} {q' : Addr} {u u' : HO} (S : Sh H0 M H l) (r : Rep l p o o' l') (r2 : Rep l' q' u u' l2) (c : Ch [p, q'] H H') (h : H' p = some o') (h2 : H' q' = some u') : Sh H0 M H' l2 :=
  (S.put r).ch1 r2 (fun b w hb hn => by
    by_cases e : b = p
    · subst e
      rw [upd_same] at hb
      rw [h, ← hb]
    · rw [upd_ne e] at hb
      exact c b w hb (by simp only [List.mem_cons, List.not_mem_nil, or_false] at hn ⊢; intro z; rcases z with z | z; exact e z; exact hn z)) h2
/-- .. and one more is new -/
theorem Sh.ch2n {l2 : List Ent} {q' n : Addr} {u u' on : HO} (S : Sh H0 M H l) (r : Rep l p o o' l') (r2 : Rep l' q' u u' l2) (c : Ch [p, q'] H H') (h : H' p = some o') (h2 : H' q' = some u') (hn : H n = none) (hq : H' n = some on) : Sh H0 M H' ((n, on, true) :: l2) := by
  have S1 := S.put r
  have ep : H p = some o := S.has _ r.mem
  have eq : upd H p o' q' = some u := S1.has _ r2.mem
  have np : n ≠ p := fun z => by rw [z, ep] at hn; cases hn
  have n1 : upd H p o' n = none := by rw [upd_ne np]; exact hn
  have nq : n ≠ q' := fun z => by rw [z, eq] at n1; cases n1
  refine (S1.put r2).add (fun b w hb _ => ?_) (by rw [upd_ne nq]; exact n1) hq
  by_cases e : b = q'
  · subst e
    rw [upd_same] at hb
    rw [h2, ← hb]
  · rw [upd_ne e] at hb
    by_cases e1 : b = p
    · subst e1
      rw [upd_same] at hb
      rw [h, ← hb]
    · rw [upd_ne e1] at hb
      exact c b w hb (by simp only [List.mem_cons, List.not_mem_nil, or_false]; intro z; rcases z with z | z; exact e1 z; exact e z)
end
/-- an object made with a part of its own -/
theorem g_kmake2 {H0 : Hp} {M : Addr → Prop} {H : Hp} {l : List Ent} {C : Addr} {sp : Sp} {E : XK} {Q : VK} {vs : List V} {fs : Addr → List (Str × V)} {o : HO} (S : Sh H0 M H l)
    (h : ∀ (x dx : Addr) (H1 : Hp) (Q' : VK), H1 x = some (.ins C dx []) → Sh H0 M H1 ((x, .ins C dx [], true) :: (dx, .own x, true) :: l) → (∀ nd H2, H1 nd = none → Ch [x] H1 H2 → H2 x = some (.ins C dx (fs nd)) → H2 nd = some o → Q' .non H2) → sp (.ref x :: vs) H1 Q' E)
    (q : ∀ x dx nd H', Sh H0 M H' ((nd, o, true) :: (x, .ins C dx (fs nd), true) :: l) → Q (.ref x) H') : kMake C sp E Q vs H := by
  intro x dx hx hd ne
  have S1 := (S.new (o := .own x) hd).new (p := x) (o := .ins C dx []) (by rw [upd_ne (Ne.symm ne)]; exact hx)
  refine h x dx _ _ (S1.has_ .here) S1 fun nd H2 hn c h2 h3 => ⟨rfl, q x dx nd H2 ?_⟩
  have S2 := S1.ch1n (q := nd) .here c h2 hn h3
  refine ⟨S2.fr, fun e he => ?_, ?_, fun e he hm => ?_⟩
  · rcases List.mem_cons.mp he with z | z
    · exact S2.has e (z ▸ List.mem_cons_self)
    · rcases List.mem_cons.mp z with z | z
      · exact S2.has e (z ▸ List.mem_cons_of_mem _ List.mem_cons_self)
      · exact S2.has e (List.mem_cons_of_mem _ (List.mem_cons_of_mem _ (List.mem_cons_of_mem _ z)))
  · have ap := S2.ap
    simp only [List.map_cons, List.pairwise_cons] at ap ⊢
    refine ⟨fun t ht => ap.1 t ?_, fun t ht => ap.2.1 t (List.mem_cons_of_mem _ ht), ap.2.2.2⟩
    rcases List.mem_cons.mp ht with z | z
    · rw [z]; exact List.mem_cons_self
    · exact List.mem_cons_of_mem _ (List.mem_cons_of_mem _ z)
  · rcases List.mem_cons.mp he with z | z
    · exact S2.mu e (z ▸ List.mem_cons_self) hm
    · rcases List.mem_cons.mp z with z | z
      · exact S2.mu e (z ▸ List.mem_cons_of_mem _ List.mem_cons_self) hm
      · exact S2.mu e (List.mem_cons_of_mem _ (List.mem_cons_of_mem _ (List.mem_cons_of_mem _ z))) hm
/-! a short list, item by item -/
def EachL (g : TG) (tb : TS) (D : Ends) (a : Addr) (u : HO) : List V → L2.St → Hp → Prop
  | [] => fun σ H => H a = some u ∧ D.nx σ H
  | x :: r => fun σ H => H a = some u ∧ g x σ H fun σ2 H2 => tb { D with nx := EachL g tb D a u r, ct := EachL g tb D a u r, bk := D.nx } σ2 H2
theorem eachL_at {g : TG} {tb : TS} {D : Ends} {d : Addr} {u : HO} {σ : L2.St} {H : Hp} : ∀ {l : List V}, EachL g tb D d u l σ H → H d = some u
  | [], h => h.1
  | _ :: _, h => h.1
def kLs (K : PySem.W.Frag) (g : TG) (tb : TS) (D : Ends) (σ : L2.St) (x : V) (H1 : Hp) : Prop := ∃ a, x = .ref a ∧ (∃ xs, SqL K H1 a xs) ∧ ∃ W : Nat → Nat → L2.St → Hp → Prop, (∃ m, W 0 m σ H1) ∧ ∀ i m σ H, W i m σ H →
  ((Itl K a).stop i H ∧ D.nx σ H) ∨ ((Itl K a).go i H ∧ ∃ N : L2.St → Hp → Prop, (∀ σ' H', N σ' H' → ∃ m', m' < m ∧ W (i + 1) m' σ' H') ∧ ∀ x H', (Itl K a).yld i H x H' → g x σ H' fun σ2 H2 => tb { D with nx := N, ct := N, bk := D.nx } σ2 H2)
section
variable {K : PySem.W.Frag} {td : TE}
instance {g : TG} {tb : TS} {D : Ends} {σ : L2.St} {H : Hp} : Step (tFor (iList K td) g tb D σ H) (td σ H (kLs K g tb D σ)) := ⟨fun h => h⟩
theorem g_ls {g : TG} {tb : TS} {D : Ends} {σ : L2.St} {H : Hp} {a : Addr} {xs : List V} (hd : H a = some (.lst xs)) (q : EachL g tb D a (.lst xs) xs σ H) : kLs K g tb D σ (.ref a) H := by
  refine ⟨a, rfl, ⟨xs, SqL.of hd⟩, for_list (K := K) (xs := xs) (fun i σ H => EachL g tb D a (.lst xs) (xs.drop i) σ H) q (fun _ _ _ _ p => SqL.of (eachL_at p)) (fun i x σ H hx p => ?_) fun σ H p => ?_⟩
  · obtain ⟨hi, e⟩ := List.getElem?_eq_some_iff.mp hx
    rw [List.drop_eq_getElem_cons hi, e] at p
    exact p.2
  · rw [List.drop_length] at p
    exact p.2
theorem g_eachl1 {g : TG} {tb : TS} {nx bk ct : L2.St → Hp → Prop} {rt : VK} {σ : L2.St} {H : Hp} {d : Addr} {u : HO} {x : V} {r : List V} (hd : H d = some u)
    (q : g x σ H fun σ2 H2 => tb ⟨EachL g tb ⟨nx, rt, bk, ct⟩ d u r, rt, nx, EachL g tb ⟨nx, rt, bk, ct⟩ d u r⟩ σ2 H2) : EachL g tb ⟨nx, rt, bk, ct⟩ d u (x :: r) σ H := ⟨hd, q⟩
theorem g_eachl0 {g : TG} {tb : TS} {nx bk ct : L2.St → Hp → Prop} {rt : VK} {σ : L2.St} {H : Hp} {d : Addr} {u : HO} (hd : H d = some u) (q : nx σ H) : EachL g tb ⟨nx, rt, bk, ct⟩ d u [] σ H := ⟨hd, q⟩
end
/-! {k: v} -/
theorem g_disp1 {H0 H : Hp} {M : Addr → Prop} {l : List Ent} {σ : L2.St} {Q : VK} {s : Str} {v : V} (S : Sh H0 M H l) (q : ∀ p H', H p = none → Sh H0 M H' ((p, .dK [(.inr s, v)], true) :: l) → Q (.ref p) H') : tDisp [(tC (.str s), tC v)] σ H Q := by
  intro p hp
  refine ⟨upd_same, [(.inr s, v)], rfl, Nat.le_of_ble_eq_true rfl, ?_⟩
  refine q p _ hp ?_
  have S1 := S.new (p := p) (o := .dK []) hp
  exact S1.put .here
/-! a, b, c = x, y, z -/
def kPar3 (nx : L2.St → Hp → Prop) (σ : L2.St) (i j k : Nat) (vs : List V) (H : Hp) : Prop := ∃ u v w, vs = [u, v, w] ∧ nx (((σ.set i (some u)).set j (some v)).set k (some w)) H
section
variable {σ σ1 σ2 σ3 : L2.St} {H : Hp} {nx : L2.St → Hp → Prop} {rt : VK} {bk ct : L2.St → Hp → Prop} {i j k : Nat} {tr : TA} {x y z : V}
instance : Step (tPar3 i j k tr ⟨nx, rt, bk, ct⟩ σ H) (tr σ H (kPar3 nx σ i j k)) := ⟨fun h => h⟩
instance [h : SetI σ i x σ1] [h2 : SetI σ1 j y σ2] [h3 : SetI σ2 k z σ3] : Step (kPar3 nx σ i j k [x, y, z] H) (nx σ3 H) := ⟨fun q => ⟨x, y, z, rfl, by rw [h.eq, h2.eq, h3.eq]; exact q⟩⟩
end
/-! deep == and != of unlike things -/
section
variable {H : Hp} {Q : VK} {x y : V} {K : PySem.W.Frag} {d e : PyData} {r : Bool}
theorem g_eqD2 (hx : Dp K H x d) (hy : Dp K H y e) (sd : SeqAt.shaped d = true) (se : SeqAt.shaped e = true) (hr : PyData.eqv d e = r) (q : Q (.bl r) H) : rEqD K x y H Q := ⟨d, e, hx, hy, sd, se, by rw [hr]; exact q⟩
theorem g_neD2 (hx : Dp K H x d) (hy : Dp K H y e) (sd : SeqAt.shaped d = true) (se : SeqAt.shaped e = true) (hr : PyData.eqv d e = r) (q : Q (.bl (!r)) H) : rNeD K x y H Q := ⟨d, e, hx, hy, sd, se, by rw [hr]; exact q⟩
theorem dp_str {x : Str} : Dp K H (.str x) (.str x) := .str x
end
/-! a place of a list -/
theorem g_ixW {H : Hp} {Q : VK} {K : PySem.W.Frag} {p : Addr} {xs : List V} {i : Int} (h : H p = some (.lst xs)) (h0 : 0 ≤ i) (h1 : i < xs.length) (q : ∀ v, v ∈ xs → Q v H) : rIxL K (.ref p) (.int i) H Q := by
  obtain ⟨v, hv, e⟩ := atI_some h0 h1
  exact ⟨p, xs, i, v, rfl, rfl, SqL.of h, e, q v hv⟩
/-- a helper that draws one item of a list -/
def spPick : Sp := fun vs H Q _ => ∃ (a p : Addr) (n s : Int) (xs : List V), vs = [.ref a, .ref p] ∧ H a = some (.lst [.int n, .int s]) ∧ Sd n s ∧ H p = some (.lst xs) ∧ 1 ≤ xs.length ∧ xs.length ≤ 1000 ∧ p ≠ a ∧
  ∀ (v : V) (n' s' : Int) (H' : Hp), Ch [a] H H' → H' a = some (.lst [.int n', .int s']) → v ∈ xs → Sd n' s' → Q v H'
theorem use_pick {H0 : Hp} {M : Addr → Prop} {H : Hp} {l : List Ent} {l' : Int → Int → List Ent} {a p : Addr} {n s : Int} {xs : List V} {Q : VK} {E : XK} (S : Sh H0 M H l) (r : ∀ n' s', Rep l a (.lst [.int n, .int s]) (.lst [.int n', .int s']) (l' n' s')) (hs : Sd n s)
    (o : On l p (.lst xs)) (h1 : 1 ≤ xs.length) (h2 : xs.length ≤ 1000) (hne : p ≠ a) (q : ∀ v n' s' H', v ∈ xs → Sd n' s' → Sh H0 M H' (l' n' s') → Q v H') : spPick [.ref a, .ref p] H Q E :=
  ⟨a, p, n, s, xs, rfl, S.has _ (r n s).mem, hs, S.has_ o, h1, h2, hne, fun v n' s' H' c h p1 p3 => q v n' s' H' p1 p3 (S.ch1 (r n' s') c h)⟩
end AF
/-! comprehensions and loops over lists, tuples, keys, item by item; dicts of numbers compared; displays *-/
namespace AF
open PySem PySem.Spec PyProof.Rows L2
/-! a comprehension over a list or tuple that stays, item by item -/
def EachQ (g : TG) (tt : TT) (te : TE) (vs : List Nat) (σ : L2.St) (Q : VK) (D : Addr) (In : Hp → Prop) : List V → Hp → Prop
  | [] => fun H => In H ∧ Q (.ref D) H
  | x :: r => fun H => In H ∧ g x (wipe σ vs) H fun σ2 H2 => wipe σ2 vs = wipe σ vs ∧ tt σ2 H2 fun b H3 => if b = true then te σ2 H3 (kEl D (EachQ g tt te vs σ Q D In r)) else EachQ g tt te vs σ Q D In r H3
section
variable {K : PySem.W.Frag} {td : TE} {g : TG} {tt : TT} {te : TE} {vs : List Nat} {σ σ' : L2.St} {Q : VK} {H0 H : Hp} {M : Addr → Prop} {l l' : List Ent} {D a : Addr} {In : Hp → Prop} {xs r : List V} {x : V}
theorem eachQ_in : ∀ {l : List V} {H : Hp}, EachQ g tt te vs σ Q D In l H → In H
  | [], _, h => h.1
  | _ :: _, _, h => h.1
def kLcL (K : PySem.W.Frag) (g : TG) (tt : TT) (te : TE) (vs : List Nat) (σ : L2.St) (Q : VK) (x : V) (H1 : Hp) : Prop := ∃ a, x = .ref a ∧ (∃ xs, SqL K H1 a xs) ∧ ∀ D, H1 D = none → ∃ W : Nat → Nat → Hp → Prop, (∃ m, W 0 m (upd H1 D (.lst []))) ∧ ∀ i m H, W i m H →
  ((Itl K a).stop i H ∧ Q (.ref D) H) ∨ ((Itl K a).go i H ∧ ∃ Nx : Hp → Prop, (∀ H', Nx H' → ∃ m', m' < m ∧ W (i + 1) m' H') ∧ ∀ x H', (Itl K a).yld i H x H' → g x (wipe σ vs) H' fun σ2 H2 => wipe σ2 vs = wipe σ vs ∧ tt σ2 H2 fun b H3 =>
    if b = true then te σ2 H3 fun y H4 => ∃ acc, H4 D = some (.lst acc) ∧ acc.length < sizeLine ∧ Nx (upd H4 D (.lst (acc ++ [y]))) else Nx H3)
def kLcT (K : PySem.W.Frag) (g : TG) (tt : TT) (te : TE) (vs : List Nat) (σ : L2.St) (Q : VK) (x : V) (H1 : Hp) : Prop := ∃ a, x = .ref a ∧ (∃ xs, SqT K H1 a xs) ∧ ∀ D, H1 D = none → ∃ W : Nat → Nat → Hp → Prop, (∃ m, W 0 m (upd H1 D (.lst []))) ∧ ∀ i m H, W i m H →
  ((Itt K a).stop i H ∧ Q (.ref D) H) ∨ ((Itt K a).go i H ∧ ∃ Nx : Hp → Prop, (∀ H', Nx H' → ∃ m', m' < m ∧ W (i + 1) m' H') ∧ ∀ x H', (Itt K a).yld i H x H' → g x (wipe σ vs) H' fun σ2 H2 => wipe σ2 vs = wipe σ vs ∧ tt σ2 H2 fun b H3 =>
    if b = true then te σ2 H3 fun y H4 => ∃ acc, H4 D = some (.lst acc) ∧ acc.length < sizeLine ∧ Nx (upd H4 D (.lst (acc ++ [y]))) else Nx H3)
instance : Step (tLc (iList K td) g tt te vs σ H Q) (td σ H (kLcL K g tt te vs σ Q)) := ⟨fun h => h⟩
instance : Step (tLc (iTup K td) g tt te vs σ H Q) (td σ H (kLcT K g tt te vs σ Q)) := ⟨fun h => h⟩
theorem g_lcL (In : Hp → Prop) (hi : ∀ H, In H → SqL K H a xs) (h0 : SqL K H a xs) (S : Sh H0 M H l) (q : ∀ D H', H D = none → Sh H0 M H' ((D, .lst [], true) :: l) → EachQ g tt te vs σ Q D In xs H') : kLcL K g tt te vs σ Q (.ref a) H :=
  ⟨a, rfl, ⟨xs, h0⟩, fun D hD => lc_list (K := K) (xs := xs) (fun i H => EachQ g tt te vs σ Q D In (xs.drop i) H) (q D _ hD (S.new hD)) (fun _ _ _ p => hi _ (eachQ_in p)) (fun i x H hx p => by
    obtain ⟨hlt, e⟩ := List.getElem?_eq_some_iff.mp hx
    rw [List.drop_eq_getElem_cons hlt, e] at p
    exact p.2) fun H p => by
      rw [List.drop_length] at p
      exact p.2⟩
theorem g_lcT (In : Hp → Prop) (hi : ∀ H, In H → SqT K H a xs) (h0 : SqT K H a xs) (S : Sh H0 M H l) (q : ∀ D H', H D = none → Sh H0 M H' ((D, .lst [], true) :: l) → EachQ g tt te vs σ Q D In xs H') : kLcT K g tt te vs σ Q (.ref a) H :=
  ⟨a, rfl, ⟨xs, h0⟩, fun D hD => lc_tup (K := K) (xs := xs) (fun i H => EachQ g tt te vs σ Q D In (xs.drop i) H) (q D _ hD (S.new hD)) (fun _ _ _ p => hi _ (eachQ_in p)) (fun i x H hx p => by
    obtain ⟨hlt, e⟩ := List.getElem?_eq_some_iff.mp hx
    rw [List.drop_eq_getElem_cons hlt, e] at p
    exact p.2) fun H p => by
      rw [List.drop_length] at p
      exact p.2⟩
/-- one item, its name in slot k, all taken -/
theorem g_eachQ1 {k : Nat} {σa σ1 : L2.St} [w1 : ClrI σ k σa] [h1 : SetI σa k x σ1] (hw : wipe σ1 [k] = wipe σ [k]) (hin : In H) (q : te σ1 H (kEl D (EachQ (gName k) tYes te [k] σ Q D In r))) : EachQ (gName k) tYes te [k] σ Q D In (x :: r) H := by
  have e : wipe σ [k] = σa := by
    show σ.set k none = σa
    exact w1.eq
  refine ⟨hin, ?_⟩
  rw [e] at hw ⊢
  show wipe (σa.set k (some x)) [k] = σa ∧ _
  rw [h1.eq]
  exact ⟨hw, iteT (B := EachQ (gName k) tYes te [k] σ Q D In r H) q⟩
/-- one item, by a test -/
theorem g_eachQt {k : Nat} {σa σ1 : L2.St} [w1 : ClrI σ k σa] [h1 : SetI σa k x σ1] (hw : wipe σ1 [k] = wipe σ [k]) (hin : In H) (q : tt σ1 H fun b H3 => if b = true then te σ1 H3 (kEl D (EachQ (gName k) tt te [k] σ Q D In r)) else EachQ (gName k) tt te [k] σ Q D In r H3) : EachQ (gName k) tt te [k] σ Q D In (x :: r) H := by
  have e : wipe σ [k] = σa := by
    show σ.set k none = σa
    exact w1.eq
  refine ⟨hin, ?_⟩
  rw [e] at hw ⊢
  show wipe (σa.set k (some x)) [k] = σa ∧ _
  rw [h1.eq]
  exact ⟨hw, q⟩
theorem g_eachQ0 (hin : In H) (q : Q (.ref D) H) : EachQ g tt te vs σ Q D In [] H := ⟨hin, q⟩
end
/-! a loop over a tuple that stays -/
def EachG (g : TG) (tb : TS) (D : Ends) (In : Hp → Prop) : List V → L2.St → Hp → Prop
  | [] => fun σ H => In H ∧ D.nx σ H
  | x :: r => fun σ H => In H ∧ g x σ H fun σ2 H2 => tb { D with nx := EachG g tb D In r, ct := EachG g tb D In r, bk := D.nx } σ2 H2
section
variable {K : PySem.W.Frag} {g : TG} {tb : TS} {D : Ends} {In : Hp → Prop} {σ σ' : L2.St} {H : Hp} {a : Addr} {xs r : List V} {x : V} {nx bk ct : L2.St → Hp → Prop} {rt : VK}
theorem eachG_in : ∀ {l : List V} {σ : L2.St} {H : Hp}, EachG g tb D In l σ H → In H
  | [], _, _, h => h.1
  | _ :: _, _, _, h => h.1
theorem g_turnG (In : Hp → Prop) (hi : ∀ H, In H → SqT K H a xs) (h0 : SqT K H a xs) (q : EachG g tb D In xs σ H) : kTurn K g tb D σ (.ref a) H := by
  refine ⟨a, rfl, ⟨xs, h0⟩, for_tup (fun i σ H => EachG g tb D In (xs.drop i) σ H) q (fun _ _ _ _ p => hi _ (eachG_in p)) (fun i x σ H hx p => ?_) fun σ H p => ?_⟩
  · obtain ⟨hlt, e⟩ := List.getElem?_eq_some_iff.mp hx
    rw [List.drop_eq_getElem_cons hlt, e] at p
    exact p.2
  · rw [List.drop_length] at p
    exact p.2
theorem g_eachG1 {i : Nat} [s : SetI σ i x σ'] (hin : In H) (q : tb ⟨EachG (gName i) tb ⟨nx, rt, bk, ct⟩ In r, rt, nx, EachG (gName i) tb ⟨nx, rt, bk, ct⟩ In r⟩ σ' H) : EachG (gName i) tb ⟨nx, rt, bk, ct⟩ In (x :: r) σ H := ⟨hin, by
  show tb _ (σ.set i (some x)) H
  rw [s.eq]
  exact q⟩
theorem g_eachG0 (hin : In H) (q : nx σ H) : EachG g tb ⟨nx, rt, bk, ct⟩ In [] σ H := ⟨hin, q⟩
end
/-! the keys of a dict that is looked at alone -/
def EachK (g : TG) (tb : TS) (D : Ends) (d : Addr) (u : HO) : List (Key × V) → L2.St → Hp → Prop
  | [] => fun σ H => H d = some u ∧ D.nx σ H
  | (k, _) :: r => fun σ H => H d = some u ∧ g (kV k) σ H fun σ2 H2 => tb { D with nx := EachK g tb D d u r, ct := EachK g tb D d u r, bk := D.nx } σ2 H2
section
variable {td : TE} {g : TG} {tb : TS} {D : Ends} {σ σ' : L2.St} {H : Hp} {d : Addr} {u : HO} {o : Obj} {kvs r : List (Key × V)} {k : Key} {v : V} {nx bk ct : L2.St → Hp → Prop} {rt : VK}
theorem eachK_frz : ∀ {l : List (Key × V)} {σ : L2.St} {H : Hp}, EachK g tb D d u l σ H → H d = some u
  | [], _, _, h => h.1
  | _ :: _, _, _, h => h.1
def ForOk (I : It) (g : TG) (tb : TS) (D : Ends) (σ : L2.St) (H1 : Hp) : Prop := ∃ W : Nat → Nat → L2.St → Hp → Prop, (∃ m, W 0 m σ H1) ∧ ∀ i m σ H, W i m σ H →
  (I.stop i H ∧ D.nx σ H) ∨ (I.go i H ∧ ∃ N : L2.St → Hp → Prop, (∀ σ' H', N σ' H' → ∃ m', m' < m ∧ W (i + 1) m' σ' H') ∧ ∀ x H', I.yld i H x H' → g x σ H' fun σ2 H2 => tb { D with nx := N, ct := N, bk := D.nx } σ2 H2)
def kKs (g : TG) (tb : TS) (D : Ends) (σ : L2.St) (x : V) (H1 : Hp) : Prop := ∃ d o, x = .ref d ∧ ((∃ kvs, H1 d = some (.frz o (.dK kvs)) ∧ ForOk (Itk d o kvs) g tb D σ H1) ∨ ∃ kvs, H1 d = some (.frz o (.dT kvs)) ∧ ForOk (Itkt d o kvs) g tb D σ H1)
instance : Step (tFor (iKeys (tLk td)) g tb D σ H) (td σ H (kLk (kKs g tb D σ))) := ⟨fun h => h⟩
theorem g_keys (hd : H d = some (.frz o (.dK kvs))) (q : EachK g tb D d (.frz o (.dK kvs)) kvs σ H) : kKs g tb D σ (.ref d) H := by
  refine ⟨d, o, rfl, .inl ⟨kvs, hd, fun i m σ H => m = kvs.length - i ∧ i ≤ kvs.length ∧ EachK g tb D d (.frz o (.dK kvs)) (kvs.drop i) σ H, ⟨kvs.length, by simp, Nat.zero_le _, q⟩, ?_⟩⟩
  rintro i m σ H ⟨rfl, hi, p⟩
  have hf := eachK_frz p
  by_cases hlt : i < kvs.length
  · refine .inr ⟨⟨hf, hlt⟩, fun σ' H' => EachK g tb D d (.frz o (.dK kvs)) (kvs.drop (i + 1)) σ' H', fun σ' H' p' => ⟨kvs.length - (i + 1), by omega, rfl, hlt, p'⟩, fun x H' y => ?_⟩
    obtain ⟨rfl, k, v, e, rfl⟩ := y
    obtain ⟨hi', e2⟩ := List.getElem?_eq_some_iff.mp e
    rw [List.drop_eq_getElem_cons hlt, e2] at p
    exact p.2
  · have e : i = kvs.length := by omega
    subst e
    rw [List.drop_length] at p
    exact .inl ⟨⟨hf, Nat.le_refl _⟩, p.2⟩
theorem g_eachK1 {i : Nat} [s : SetI σ i (kV k) σ'] (hin : H d = some u) (q : tb ⟨EachK (gName i) tb ⟨nx, rt, bk, ct⟩ d u r, rt, nx, EachK (gName i) tb ⟨nx, rt, bk, ct⟩ d u r⟩ σ' H) : EachK (gName i) tb ⟨nx, rt, bk, ct⟩ d u ((k, v) :: r) σ H := ⟨hin, by
  show tb _ (σ.set i (some (kV k))) H
  rw [s.eq]
  exact q⟩
theorem g_eachKs {i : Nat} {z : Str} [s : SetI σ i (.str z) σ'] (hin : H d = some u) (q : tb ⟨EachK (gName i) tb ⟨nx, rt, bk, ct⟩ d u r, rt, nx, EachK (gName i) tb ⟨nx, rt, bk, ct⟩ d u r⟩ σ' H) : EachK (gName i) tb ⟨nx, rt, bk, ct⟩ d u ((.inr z, v) :: r) σ H := ⟨hin, by
  show tb _ (σ.set i (some (.str z))) H
  rw [s.eq]
  exact q⟩
theorem g_dgF {a : Addr} {z : Str} {Q : VK} (h : H a = some (.frz o (.dK kvs))) (e : valV kvs (.inr z) = some v) (q : Q v H) : kDG Q (.ref a) (.str z) H :=
  ⟨a, v, rfl, .inl ⟨kvs, .inr z, .inr ⟨o, h⟩, rfl, e.symm⟩, q⟩
theorem g_eachK0 (hin : H d = some u) (q : nx σ H) : EachK g tb ⟨nx, rt, bk, ct⟩ d u [] σ H := ⟨hin, q⟩
end
/-! a loop over range(1, n) -/
def Loop2 (lo : Int) (n : Nat) (g : TG) (tb : TS) (D : Ends) (σ : L2.St) (H : Hp) : Prop := ForOk (Itr lo n) g tb D σ H
def kR2 (P : Int → Int → Hp → Prop) (vs : List V) (H : Hp) : Prop := ∃ i j : Int, vs = [.int i, .int j] ∧ (-(2 ^ 62) ≤ i ∧ i < 2 ^ 62 ∧ -(2 ^ 62) ≤ j ∧ j < 2 ^ 62) ∧ P i j H
section
variable {σ : L2.St} {H : Hp} {ta : TA} {g : TG} {tb : TS} {D : Ends} {i j : Int}
instance : Step (tFor (iRng2 ta) g tb D σ H) (ta σ H (kR2 fun i j H1 => Loop2 i (j - i).toNat g tb D σ H1)) := ⟨fun h => h⟩
theorem g_kR2 {P : Int → Int → Hp → Prop} (h1 : -(2 ^ 62) ≤ i) (h2 : i < 2 ^ 62) (h3 : -(2 ^ 62) ≤ j) (h4 : j < 2 ^ 62) (q : P i j H) : kR2 P [.int i, .int j] H := ⟨i, j, rfl, ⟨h1, h2, h3, h4⟩, q⟩
theorem g_loop2 {lo : Int} {n k : Nat} {nx : L2.St → Hp → Prop} {rt : VK} {bk ct : L2.St → Hp → Prop} (Pv : Nat → L2.St → Hp → Prop) (h0 : Pv 0 σ H)
    (hs : ∀ (i : Nat) σ H, i < n → Pv i σ H → tb ⟨Pv (i + 1), rt, nx, Pv (i + 1)⟩ (σ.set k (some (.int (lo + (i : Int))))) H) (hd : ∀ σ H, Pv n σ H → nx σ H) : Loop2 lo n (gName k) tb ⟨nx, rt, bk, ct⟩ σ H :=
  for_range (lo := lo) (n := n) (D := ⟨nx, rt, bk, ct⟩) Pv h0 (fun i σ H hi p => hs i σ H hi p) hd
end
/-! dicts of three numbers, compared -/
section
variable {X : Cx}
def d3 (x y z : V) : List (Key × V) := [(.inr "read", x), (.inr "written", y), (.inr "changed", z)]
def rEq3 : R2 := fun p q H Q => ∃ (a b : Addr) (x y z x' y' z' : Int), p = .ref a ∧ q = .ref b ∧ H a = some (.dK (d3 (.int x) (.int y) (.int z))) ∧ H b = some (.dK (d3 (.int x') (.int y') (.int z'))) ∧ Q (.bl (decide (x = x') && (decide (y = y') && (decide (z = z') && true)))) H
def rNe3 : R2 := fun p q H Q => ∃ (a b : Addr) (x y z x' y' z' : Int), p = .ref a ∧ q = .ref b ∧ H a = some (.dK (d3 (.int x) (.int y) (.int z))) ∧ H b = some (.dK (d3 (.int x') (.int y') (.int z'))) ∧ Q (.bl (!(decide (x = x') && (decide (y = y') && (decide (z = z') && true))))) H
theorem hits_one {A : Around} {s : Shared} {kvs : List (Key × V)} {vb : List (Key × Value)} {k : Key} {i j : Int} {u : Value} {qs : List (Key × Value)} {b : Bool} (rb : KV kvs vb) (e : valV kvs k = some (.int j)) (ru : RelV (.int i) u) (h : PySem.W.KeqHits A s vb qs b) : PySem.W.KeqHits A s vb ((k, u) :: qs) (decide (i = j) && b) := by
  have rr : RelO (some (.int j)) (valueAt vb k) := by rw [← e]; exact rb.val k
  obtain ⟨y, hy, ry⟩ := rr.some_of
  obtain ⟨t, rfl⟩ := (show ∃ t, u = Value.int i t from ru)
  obtain ⟨t', rfl⟩ := (show ∃ t, y = Value.int j t from ry)
  have q := SeqAt.EqAt.int_int (A := A) (s := s) i t j t'
  have e2 : (i == j) = decide (i = j) := rfl
  rw [e2] at q
  exact .hit hy q h
theorem hits3 {A : Around} {s : Shared} {va vb : List (Key × Value)} {x y z x' y' z' : Int} (ra : KV (d3 (.int x) (.int y) (.int z)) va) (rb : KV (d3 (.int x') (.int y') (.int z')) vb) : PySem.W.KeqHits A s vb va (decide (x = x') && (decide (y = y') && (decide (z = z') && true))) := by
  unfold KV d3 at ra
  cases ra with
  | @cons p q ps qs h t =>
    cases t with
    | @cons p2 q2 ps2 qs2 h2 t2 =>
      cases t2 with
      | @cons p3 q3 ps3 qs3 h3 t3 =>
        cases t3
        obtain ⟨k1, u1⟩ := q
        obtain ⟨k2, u2⟩ := q2
        obtain ⟨k3, u3⟩ := q3
        obtain ⟨e1, r1⟩ := h
        obtain ⟨e2, r2⟩ := h2
        obtain ⟨e3, r3⟩ := h3
        cases (show (Sum.inr "read" : Key) = k1 from e1)
        cases (show (Sum.inr "written" : Key) = k2 from e2)
        cases (show (Sum.inr "changed" : Key) = k3 from e3)
        exact hits_one rb rfl r1 (hits_one rb rfl r2 (hits_one rb rfl r3 .nil))
theorem op_eq3 (hu : X.A.units < cLine) : OpR X (compareOp .Eq) rEq3 := by
  intro pins s σ H x y v u Q I rx ry h
  obtain ⟨a, b, x, y, z, x', y', z', rfl, rfl, ea, eb, q⟩ := h
  obtain rfl : v = Value.ref a := rx
  obtain rfl : u = Value.ref b := ry
  obtain ⟨_, ya, va, ra, da⟩ := (show ObjOk X.prog X.w H s.heap a (.dK _) from I.hok a _ ea)
  obtain ⟨_, yb, vb, rb, db⟩ := (show ObjOk X.prog X.w H s.heap b (.dK _) from I.hok b _ eb)
  have hl : va.length = vb.length := by rw [← ra.length, ← rb.length]; rfl
  exact PySem.W.keq_eq (knd := mixKind X.prog X.w) (r := decide (x = x') && (decide (y = y') && (decide (z = z') && true))) ya yb da db hu (fun _ => hits3 ra rb) (fin_bl I q (by simp [hl]))
theorem op_ne3 (hu : X.A.units < cLine) : OpR X (compareOp .NotEq) rNe3 := by
  intro pins s σ H x y v u Q I rx ry h
  obtain ⟨a, b, x, y, z, x', y', z', rfl, rfl, ea, eb, q⟩ := h
  obtain rfl : v = Value.ref a := rx
  obtain rfl : u = Value.ref b := ry
  obtain ⟨_, ya, va, ra, da⟩ := (show ObjOk X.prog X.w H s.heap a (.dK _) from I.hok a _ ea)
  obtain ⟨_, yb, vb, rb, db⟩ := (show ObjOk X.prog X.w H s.heap b (.dK _) from I.hok b _ eb)
  have hl : va.length = vb.length := by rw [← ra.length, ← rb.length]; rfl
  exact PySem.W.keq_ne (knd := mixKind X.prog X.w) (r := decide (x = x') && (decide (y = y') && (decide (z = z') && true))) ya yb da db hu (fun _ => hits3 ra rb) (fin_bl I q (by simp [hl]))
end
section
variable {H : Hp} {Q : VK} {a b : Addr} {x y z x' y' z' : Int}
theorem g_eq3 (ha : H a = some (.dK (d3 (.int x) (.int y) (.int z)))) (hb : H b = some (.dK (d3 (.int x') (.int y') (.int z')))) {r : Bool} (e : (decide (x = x') && (decide (y = y') && (decide (z = z') && true))) = r) (q : Q (.bl r) H) : rEq3 (.ref a) (.ref b) H Q := ⟨a, b, x, y, z, x', y', z', rfl, rfl, ha, hb, by rw [e]; exact q⟩
theorem g_ne3 (ha : H a = some (.dK (d3 (.int x) (.int y) (.int z)))) (hb : H b = some (.dK (d3 (.int x') (.int y') (.int z')))) {r : Bool} (e : (decide (x = x') && (decide (y = y') && (decide (z = z') && true))) = r) (q : Q (.bl (!r)) H) : rNe3 (.ref a) (.ref b) H Q := ⟨a, b, x, y, z, x', y', z', rfl, rfl, ha, hb, by rw [e]; exact q⟩
theorem same3 (h1 : x = x') (h2 : y = y') (h3 : z = z') : (decide (x = x') && (decide (y = y') && (decide (z = z') && true))) = true := by subst h1 h2 h3; simp
end
/-! {k: v, ..} of values that are made -/
def kDisp (p : Addr) (Q : VK) (ps : List (V × V)) (H2 : Hp) : Prop := H2 p = some (.dK []) ∧ ∃ kvs : List (Key × V), ps = kvs.map (fun kv => (kV kv.1, kv.2)) ∧ kvs.length ≤ 15 ∧ Q (.ref p) (upd H2 p (.dK (mergeK [] kvs)))
section
variable {σ : L2.St} {H0 H : Hp} {M : Addr → Prop} {l l' : List Ent} {Q : VK} {trs r : List (TE × TE)} {tk tv : TE} {QP : List (V × V) → Hp → Prop}
theorem g_disp (S : Sh H0 M H l) (q : ∀ p H', Sh H0 M H' ((p, .dK [], true) :: l) → tPairs trs σ H' (kDisp p Q)) : tDisp trs σ H Q := fun p hp => q p _ (S.new hp)
instance : Step (tPairs [] σ H QP) (QP [] H) := ⟨fun h => h⟩
instance : Step (tPairs ((tk, tv) :: r) σ H QP) (tk σ H fun x H1 => tv σ H1 fun y H2 => tPairs r σ H2 fun ps H3 => QP ((x, y) :: ps) H3) := ⟨fun h => h⟩
theorem g_kdisp {p : Addr} {kvs : List (Key × V)} {ps : List (V × V)} (S : Sh H0 M H l) (r : Rep l p (.dK []) (.dK kvs) l') (e : ps = kvs.map (fun kv => (kV kv.1, kv.2))) (hl : Nat.ble kvs.length 15 = true) (em : mergeK [] kvs = kvs) (q : ∀ H', Sh H0 M H' l' → Q (.ref p) H') : kDisp p Q ps H :=
  ⟨S.has _ r.mem, kvs, e, Nat.le_of_ble_eq_true hl, by rw [em]; exact q _ (S.put r)⟩
end
/-! list(d), list(t); is, is not between truths; all, max of a list -/
def rListT (K : PySem.W.Frag) : List V → Hp → VK → Prop := fun xs H Q => ∃ p ys, xs = [.ref p] ∧ (SqL K H p ys ∨ SqT K H p ys) ∧ ∀ l, H l = none → Q (.ref l) (upd H l (.lst ys))
def rIsB (neg : Bool) : R2 := fun x y H Q => ∃ a b, x = .bl a ∧ y = .bl b ∧ Q (.bl (if neg then !decide (a = b) else decide (a = b))) H
section
variable {X : Cx} {H0 H : Hp} {M : Addr → Prop} {l : List Ent} {Q : VK} {K : PySem.W.Frag} {a : Addr} {kvs : List (Key × V)} {ys : List V} {x y : Bool}
theorem cl_listT : CallR X (.type "list") (rListT X.K) := call_list_of
theorem g_listT (S : Sh H0 M H l) (h : SqL K H a ys ∨ SqT K H a ys) (q : ∀ p H', H p = none → Sh H0 M H' ((p, .lst ys, true) :: l) → Q (.ref p) H') : rListT K [.ref a] H Q := ⟨a, ys, rfl, h, fun p hp => q p _ hp (S.new hp)⟩
theorem g_listK (S : Sh H0 M H l) (h : H a = some (.dK kvs)) (q : ∀ p H', H p = none → Sh H0 M H' ((p, .lst (kvs.map fun kv => kV kv.1), true) :: l) → Q (.ref p) H') : rListK [.ref a] H Q :=
  ⟨a, kvs, rfl, .inl h, fun p hp => q p _ hp (S.new hp)⟩
theorem op_isB : OpR X (compareOp .Is) (rIsB false) := op_is_bl
theorem op_isnotB : OpR X (compareOp .IsNot) (rIsB true) := op_isnot_bl
instance : Step (rIsB false (.bl x) (.bl y) H Q) (Q (.bl (decide (x = y))) H) := ⟨fun q => ⟨x, y, rfl, rfl, q⟩⟩
instance : Step (rIsB true (.bl x) (.bl y) H Q) (Q (.bl (!decide (x = y))) H) := ⟨fun q => ⟨x, y, rfl, rfl, q⟩⟩
theorem cl_all (hc : X.calm = true) : CallR X (.builtin "all") (rAll X.K) := cr_all hc
theorem cl_maxL (hc : X.calm = true) : CallR X (.builtin "max") (rMax X.K) := cr_max hc
theorem g_all {bs : List Bool} (h : SqL K H a (bs.map V.bl)) (q : Q (.bl (bs.all id)) H) : rAll K [.ref a] H Q := ⟨a, bs, rfl, h, q⟩
theorem g_maxL {ns : List Int} (h : SqL K H a (ns.map V.int)) (h0 : 0 < ns.length) (q : ∀ m, m ∈ ns → (∀ y, y ∈ ns → y ≤ m) → Q (.int m) H) : rMax K [.ref a] H Q := ⟨a, ns, rfl, h, h0, q⟩
end
/-! rules within a comprehension: the facts' K by name -/
section
variable {X : Cx} {K : PySem.W.Frag} {e : Expr} {ta : TE} {f : Str} {pos : Pos}
theorem pe_fldK (he : PE X e ta) (hb : attributeBase e f X.env (eval e X.env) = eval e X.env) (hK : X.K = K := by rfl) : PE X (.Attribute e f pos) (tFld K ta f) := hK ▸ pe_fld he hb
theorem call_isiK (hK : X.K = K := by rfl) : CallR X (.builtin "isinstance") (rIsi K) := hK ▸ call_isi
theorem op_in_seqK (hK : X.K = K := by rfl) : OpR X (compareOp .In) (rIn K false) := hK ▸ op_in_seq
theorem ix_tupK (hK : X.K = K := by rfl) : IxR X (rIxT K) := hK ▸ ix_tup
theorem ix_listK (hK : X.K = K := by rfl) : IxR X (rIxL K) := hK ▸ ix_list
end
theorem cmp_eqK {X : Cx} {P : Program} {w : World} {K : PySem.W.Frag} {mg : Str → Option Value} {base : Heap} {k : Nat} {f C : Addr} {ps : List Str} {sp : Sp} (D : Dn P w K mg base k f ps sp) (B : Cmp K .Eq C f) (hr : Room k X.A) (h1 : X.prog = P := by rfl) (h2 : X.w = w := by rfl) (h3 : X.K = K := by rfl) (h4 : X.mg = mg := by rfl) (h5 : X.base = base := by rfl) :
    OpR X (compareOp .Eq) (rCmp K C sp E0) := by
  subst h1 h2 h3 h4 h5
  exact cmp_eq D B hr passL
theorem g_listKy {H0 H : Hp} {M : Addr → Prop} {l : List Ent} {Q : VK} {a : Addr} {kvs : List (Key × V)} (ys : List V) (S : Sh H0 M H l) (h : H a = some (.dK kvs)) (e : (kvs.map fun kv => kV kv.1) = ys) (q : ∀ p H', H p = none → Sh H0 M H' ((p, .lst ys, true) :: l) → Q (.ref p) H') : rListK [.ref a] H Q := by
  subst e
  exact g_listK S h q
end AF
/-! what the top leaves, with its written dicts, looked at once; written tuples of texts as truths -/
namespace AF
open PySem PySem.Spec PyProof.Rows L2 He
open PySem.W (Frag findIn isFn subIn selfFirst notFirst specialIn takesIn mroIn kitOne keepIn codeIn recIn nsIn)
abbrev SeenT : Type := Seen × List (Option (List (Option (Str × Int))))
def lookT (fs : Frag → List Bool) (ds : List DA) (ts : List Tab) (K : Frag) : SeenT := (look fs ds K, ts.map fun t => dicW K (t.1 K))
def lookTW (ds : List DA) (ts : List Tab) (w : World) : SeenT := (lookW ds, ts.map fun t => some (keysIn w.params t.2))
def TellsT (fs : Frag → List Bool) (ds : List DA) (ts : List Tab) (w : World) (K : Frag) : Prop := lookT fs ds ts K = lookTW ds ts w
def lookTG (n : Nat) (fs : Frag → List Bool) (ds : List DA) (ts : List Tab) (g : Addr → Option Obj) : SeenT := lookT fs ds ts (frG g (PySem.cStatics :: asD g n))
def hookT2 (n : Nat) (fs : Frag → List Bool) (ds : List DA) (ts : List Tab) : PySem.W.Hook where
  α := SeenT
  obs := fun s => lookTG n fs ds ts s.heap.get?
  val := fun w => lookTW ds ts w
  says := fun w h => ∃ K : Frag, K.In h ∧ TellsT fs ds ts w K
  of := fun _ _ e => ⟨_, frG_in, e⟩
  keeps := fun _ _ _ ⟨K, hK, c⟩ k => ⟨K, Frag.In.keeps hK k, c⟩
theorem lookTG_eq {n : Nat} {fs : Frag → List Bool} {ds : List DA} {ts : List Tab} {g : Addr → Option Obj} {s : Shared} (h : ∀ a, g a = s.heap.get? a) : lookTG n fs ds ts g = (hookT2 n fs ds ts).obs s := by
  have e : g = s.heap.get? := funext h
  rw [e]
  rfl
section
variable {fs : Frag → List Bool} {ds : List DA} {ts : List Tab} {w : World} {K : Frag}
theorem TellsT.d (c : TellsT fs ds ts w K) : Tells fs ds K := congrArg (fun z : SeenT => z.1) c
theorem TellsT.tab (c : TellsT fs ds ts w K) (i : Nat) {t : Tab} (h : ts[i]? = some t := by rfl) : ∃ es n, KDict K w (t.1 K) es n := by
  have e : ts.map (fun t => dicW K (t.1 K)) = ts.map fun t => some (keysIn w.params t.2) := congrArg (fun z : SeenT => z.2) c
  have e2 : (ts.map fun t => dicW K (t.1 K))[i]? = (ts.map fun t => some (keysIn w.params t.2))[i]? := by rw [e]
  rw [List.getElem?_map, List.getElem?_map, h] at e2
  exact dicW_ok (Option.some.inj e2)
end
/-! a written tuple of texts -/
def strsB : List Str → List Value → Bool
  | [], [] => true
  | x :: r, .str y _ :: q => decide (y = x) && strsB r q
  | _, _ => false
theorem strsB_ok : ∀ {ms : List Str} {us : List Value}, strsB ms us = true → Vals (ms.map V.str) us
  | [], [], _ => .nil
  | x :: r, .str y t :: q, h => by
    obtain ⟨h1, h2⟩ := ba (show (decide (y = x) && strsB r q) = true from h)
    obtain rfl : y = x := of_decide_eq_true h1
    exact .cons ⟨t, rfl⟩ (strsB_ok h2)
  | [], _ :: _, h => by simp [strsB] at h
  | _ :: _, [], h => by simp [strsB] at h
  | x :: r, u :: q, h => by
    cases u with
    | str y t =>
      obtain ⟨h1, h2⟩ := ba (show (decide (y = x) && strsB r q) = true from h)
      obtain rfl : y = x := of_decide_eq_true h1
      exact .cons ⟨t, rfl⟩ (strsB_ok h2)
    | _ => simp [strsB] at h
def ktB (K : Frag) (a : Addr) (ms : List Str) : Bool := match K.lookup a with
  | some ⟨.type c, _, .seq its _, _⟩ => decide (c = "tuple") && (strsB ms its.toList && Nat.ble its.size 1000)
  | _ => false
theorem ktB_ok {K : Frag} {a : Addr} {ms : List Str} (h : ktB K a ms = true) : AF.KT K a (ms.map V.str) := by
  unfold ktB at h
  cases q : K.lookup a with
  | none => rw [q] at h; cases h
  | some o =>
    obtain ⟨oc, od, dt, osl⟩ := o
    rw [q] at h
    cases oc with
    | type c =>
      cases dt with
      | seq its n =>
        obtain ⟨h1, h2⟩ := ba (show (decide (c = "tuple") && (strsB ms its.toList && Nat.ble its.size 1000)) = true from h)
        obtain ⟨h3, h4⟩ := ba h2
        obtain rfl : c = "tuple" := of_decide_eq_true h1
        exact ⟨_, its, n, q, rfl, rfl, line_of h4, strsB_ok h3⟩
      | _ => cases h
    | _ => cases dt <;> cases h
/-- what stands at a key is a written tuple of texts -/
def nowB (K : Frag) (d : Addr) (x : Str) (ms : List Str) : Bool := match nsIn K d x with
  | some (some (.ref t)) => ktB K t ms
  | _ => false
theorem nowB_ok {K : Frag} {d : Addr} {x : Str} {ms : List Str} (h : nowB K d x ms = true) : ∃ t : Addr, nsIn K d x = some (some (.ref t)) ∧ AF.KT K t (ms.map V.str) := by
  unfold nowB at h
  split at h
  · rename_i t e
    exact ⟨t, e, ktB_ok h⟩
  · cases h
theorem now_some {K : Frag} {d : Addr} {x : Str} {ms : List V} (h : ∃ t : Addr, nsIn K d x = some (some (.ref t)) ∧ AF.KT K t ms) : ∃ v, nsIn K d x = some (some v) := by
  obtain ⟨t, e, _⟩ := h
  exact ⟨_, e⟩
end AF
/-! what the top leaves, looked at in two parts -/
namespace AF
open PySem PySem.Spec PyProof.Rows L2 He
open PySem.W (Frag OpenRow)
open HandSHeadRun
def lookP (n : Nat) (f1 : Frag → List Bool) (d1 : List DA) (f2 : Frag → List Bool) (d2 : List DA) (g : Addr → Option Obj) : SeenT × SeenT := (lookTG n f1 d1 [] g, lookTG n f2 d2 [] g)
def hookP (n : Nat) (f1 : Frag → List Bool) (d1 : List DA) (f2 : Frag → List Bool) (d2 : List DA) : PySem.W.Hook where
  α := SeenT × SeenT
  obs := fun s => lookP n f1 d1 f2 d2 s.heap.get?
  val := fun w => (lookTW d1 [] w, lookTW d2 [] w)
  says := fun w h => ∃ K : Frag, K.In h ∧ (TellsT f1 d1 [] w K ∧ TellsT f2 d2 [] w K)
  of := fun _ _ e => ⟨_, frG_in, (Prod.mk.inj e).1, (Prod.mk.inj e).2⟩
  keeps := fun _ _ _ ⟨K, hK, c⟩ k => ⟨K, Frag.In.keeps hK k, c⟩
theorem lookP_eq {n : Nat} {f1 f2 : Frag → List Bool} {d1 d2 : List DA} {g : Addr → Option Obj} {s : Shared} (h : ∀ a, g a = s.heap.get? a) : lookP n f1 d1 f2 d2 g = (hookP n f1 d1 f2 d2).obs s := by
  have e : g = s.heap.get? := funext h
  rw [e]
  rfl
theorem map_two {α β γ δ : Type} {o : Option α} {f : α → β} {g : α → γ} {b : β} {c : γ} (k : α → δ) (e : β → γ → δ) (hk : ∀ a, k a = e (f a) (g a)) (h1 : o.map f = some b) (h2 : o.map g = some c) : o.map k = some (e b c) := by
  cases o with
  | none => cases h1
  | some a =>
    cases h1
    cases h2
    show some (k a) = _
    rw [hk]
theorem run_split {r : OpenRow} {q : Program} {n M : Nat} {f1 f2 : Frag → List Bool} {d1 d2 : List DA} {loose : List PySem.Str} {w : World}
    (h1 : RunEq r q (hookT2 n f1 d1 []) (fun s => lookTG n f1 d1 [] (getT s)) M loose w)
    (h2 : ∀ os : OsState, (endF (stepQ (denQ tabQ) r.prog w) M r.prog w os).map (fun s => lookTG n f2 d2 [] (getT s)) = some (lookTW d2 [] w)) :
    RunEq r q (hookP n f1 d1 f2 d2) (fun s => lookP n f1 d1 f2 d2 (getT s)) M loose w := fun os =>
  map_two _ (fun (x : Bool × _ × SeenT) (y : SeenT) => (x.1, x.2.1, (x.2.2, y))) (fun _ => rfl) (h1 os) (h2 os)
end AF
/-! what the top leaves: code objects stand, but are not looked into *-/
namespace AF
open PySem PySem.Spec PyProof.Rows L2 He
open PySem.W (Frag OpenRow)
open HandSHeadRun
def leafO (o : Obj) : Bool := match o.cls with
  | .type c => decide (c = "code")
  | _ => false
def refsP (o : Obj) : List Addr := match leafO o with
  | true => []
  | false => refsD o
def dd1 (seen : List Addr) : List Addr → List Addr
  | [] => []
  | a :: r => match seen.elem a with
    | true => dd1 seen r
    | false => a :: dd1 (a :: seen) r
def refsA (g : Addr → Option Obj) (a : Addr) : List Addr := match g a with
  | some o => refsP o
  | none => []
def asP (g : Addr → Option Obj) : Nat → List Addr → List Addr → List Addr
  | 0, seen, _ => seen
  | n + 1, seen, front => asP g n (seen ++ dd1 seen (front.flatMap (refsA g))) (dd1 seen (front.flatMap (refsA g)))
def lookTP (n : Nat) (fs : Frag → List Bool) (ds : List DA) (g : Addr → Option Obj) : SeenT := lookT fs ds [] (frG g (PySem.cStatics :: asP g n [mainGlobals] [mainGlobals]))
def lookQ (n : Nat) (f1 : Frag → List Bool) (d1 : List DA) (f2 : Frag → List Bool) (d2 : List DA) (g : Addr → Option Obj) : SeenT × SeenT := (lookTP n f1 d1 g, lookTP n f2 d2 g)
def hookQ1 (n : Nat) (fs : Frag → List Bool) (ds : List DA) : PySem.W.Hook where
  α := SeenT
  obs := fun s => lookTP n fs ds s.heap.get?
  val := fun w => lookTW ds [] w
  says := fun w h => ∃ K : Frag, K.In h ∧ TellsT fs ds [] w K
  of := fun _ _ e => ⟨_, frG_in, e⟩
  keeps := fun _ _ _ ⟨K, hK, c⟩ k => ⟨K, Frag.In.keeps hK k, c⟩
def hookQ (n : Nat) (f1 : Frag → List Bool) (d1 : List DA) (f2 : Frag → List Bool) (d2 : List DA) : PySem.W.Hook where
  α := SeenT × SeenT
  obs := fun s => lookQ n f1 d1 f2 d2 s.heap.get?
  val := fun w => (lookTW d1 [] w, lookTW d2 [] w)
  says := fun w h => ∃ K : Frag, K.In h ∧ (TellsT f1 d1 [] w K ∧ TellsT f2 d2 [] w K)
  of := fun _ _ e => ⟨_, frG_in, (Prod.mk.inj e).1, (Prod.mk.inj e).2⟩
  keeps := fun _ _ _ ⟨K, hK, c⟩ k => ⟨K, Frag.In.keeps hK k, c⟩
theorem lookQ_eq {n : Nat} {f1 f2 : Frag → List Bool} {d1 d2 : List DA} {g : Addr → Option Obj} {s : Shared} (h : ∀ a, g a = s.heap.get? a) : lookQ n f1 d1 f2 d2 g = (hookQ n f1 d1 f2 d2).obs s := by
  have e : g = s.heap.get? := funext h
  rw [e]
  rfl
theorem run_splitQ {r : OpenRow} {q : Program} {n M : Nat} {f1 f2 : Frag → List Bool} {d1 d2 : List DA} {loose : List PySem.Str} {w : World}
    (h1 : RunEq r q (hookQ1 n f1 d1) (fun s => lookTP n f1 d1 (getT s)) M loose w)
    (h2 : ∀ os : OsState, (endF (stepQ (denQ tabQ) r.prog w) M r.prog w os).map (fun s => lookTP n f2 d2 (getT s)) = some (lookTW d2 [] w)) :
    RunEq r q (hookQ n f1 d1 f2 d2) (fun s => lookQ n f1 d1 f2 d2 (getT s)) M loose w := fun os =>
  map_two _ (fun (x : Bool × _ × SeenT) (y : SeenT) => (x.1, x.2.1, (x.2.2, y))) (fun _ => rfl) (h1 os) (h2 os)
end AF
/-! defs that may show containers: what they promise where no repr is under way; the law's end for such a law -/
namespace AF
open PySem PySem.Spec PyProof.Rows L2 LamX
/-- a promise for places at which no repr runs -/
structure FnG (P : Program) (w : World) (K : PySem.W.Frag) (mg : Str → Option Value) (base : Heap) (CX : CXT) (k : Nat) (f : Addr) (fd : FuncData) (ps : List Str) (sp : Sp) : Prop where
  len : ∀ vs H Q E, sp vs H Q E → vs.length = ps.length
  go : ∀ (A : Around) (outer : List Env) (s : Shared) (H : Hp) (args : Args) (us : List Value) (vs : List V) (Q : VK) (E : XK), A.guards = some [] → Room k A → Env0 P w K mg base A outer s H →
    BindsTo s fd args (ps.zip us) → Vals vs us → sp vs H Q E → codeAny (model P w) A (.call (.ref f) args) (CR CX outer P w H s Q E) s
theorem FunD.okG {P : Program} {w : World} {K : PySem.W.Frag} {mg : Str → Option Value} {base : Heap} {x qual : Str} {params : Arguments} {body : List Stmt} {scope : Scope} {dvs : List V} {kws : List (Str × V)} {f : Addr} {fd : FuncData}
    {CX : CXT} {N ps : List Str} {k : Nat} {sp : Sp} (F : FunD K x qual params body scope dvs kws f fd) (S : FnScope N ps scope) (len : ∀ vs H Q E, sp vs H Q E → vs.length = ps.length)
    (hb : ∀ (cdv : Value) (A : Around) (outer : List Env) (s : Shared) (H : Hp) (vs : List V) (Q : VK) (E : XK), A.guards = some [] → Room k (A.deeper (envOfC qual scope s.heap.objs.size f cdv)) → sp vs H Q E →
      ∃ t, PSs (cxOf CX P w K mg base N qual scope f cdv A outer s H E) body t ∧ t { nx := fun _ H' => Q .non H', rt := Q } (L2.start N vs) H) : FnG P w K mg base CX (k + 1) f fd ps sp := by
  obtain ⟨oc, od, dV, kV, doc, pm, an, cdv, ct, osl, efd, lk, hcd, _, _⟩ := F.ex
  subst efd
  exact ⟨len, fun A outer s H args us vs Q E hg hr e0 hbd r hsp => run_ofS lk hcd S hr e0 hbd r (len _ _ _ _ hsp) fun hr' => hb cdv A outer s H vs Q E hg hr' hsp⟩
/-- a def's code -/
def cdOf (K : PySem.W.Frag) (f : Addr) : Value := match K.lookup f with
  | some ⟨_, _, .func fd, _⟩ => fd.code
  | _ => .none
/-- .. whose code is told -/
theorem FunD.okC {P : Program} {w : World} {K : PySem.W.Frag} {mg : Str → Option Value} {base : Heap} {x qual : Str} {params : Arguments} {body : List Stmt} {scope : Scope} {dvs : List V} {kws : List (Str × V)} {f : Addr} {fd : FuncData}
    {CX : CXT} {N ps : List Str} {k : Nat} {sp : Sp} (F : FunD K x qual params body scope dvs kws f fd) (S : FnScope N ps scope) (len : ∀ vs H Q E, sp vs H Q E → vs.length = ps.length)
    (hb : ∀ (cdv : Value) (A : Around) (outer : List Env) (s : Shared) (H : Hp) (vs : List V) (Q : VK) (E : XK), cdOf K f = cdv → A.guards = some [] → Room k (A.deeper (envOfC qual scope s.heap.objs.size f cdv)) → sp vs H Q E →
      ∃ t, PSs (cxOf CX P w K mg base N qual scope f cdv A outer s H E) body t ∧ t { nx := fun _ H' => Q .non H', rt := Q } (L2.start N vs) H) : FnG P w K mg base CX (k + 1) f fd ps sp := by
  obtain ⟨oc, od, dV, kV, doc, pm, an, cdv, ct, osl, efd, lk, hcd, _, _⟩ := F.ex
  subst efd
  have ec : cdOf K f = cdv := by unfold cdOf; rw [lk]
  exact ⟨len, fun A outer s H args us vs Q E hg hr e0 hbd r hsp => run_ofS lk hcd S hr e0 hbd r (len _ _ _ _ hsp) fun hr' => hb cdv A outer s H vs Q E ec hg hr' hsp⟩
/-- .. by name, all parameters given -/
structure DnG (P : Program) (w : World) (K : PySem.W.Frag) (mg : Str → Option Value) (base : Heap) (k : Nat) (a : Addr) (ps : List Str) (sp : Sp) : Prop where
  ex : ∃ fd, FnG P w K mg base (L2.CX P w) k a fd ps sp ∧ Binds K fd ps []
  kp : PySem.W.keepIn K (.ref a) = true
section
variable {X : Cx} {k : Nat} {f : Addr} {ps : List Str} {sp : Sp} {E : XK} {x : Str} {p pos : Pos} {e : Expr} {es : List Expr} {t : TA}
theorem pe_dng (D : DnG X.prog X.w X.K X.mg X.base k f ps sp) (hG : X.A.guards = some []) (hr : Room k X.A) (hg : Gl X x) (hm : X.mg x = some (.ref f)) (hx : Passes (L2.CX X.prog X.w) X E) (ha : PA X (e :: es) t) (hdb : (x == ("__debug__" : Str)) = false := by decide)
    (he : starEach (e :: es) X.env = (false, eval e X.env) :: starEach es X.env := by rfl) (hpl : (backTo pos (starEach es X.env)).any (·.1) = false := by rfl) : PE X (.Call (.Name x p) (e :: es) [] pos) (tCall sp [] E t) := by
  obtain ⟨fd, F, b⟩ := D.ex
  constructor
  intro pins s σ H Q I h
  refine wpAny_Call_Name_kw (ld_glob I hg hm ?_ hdb)
  refine PySem.W.callWith_K (h₀ := X.base) I.ok.mod.kin D.kp (thn (ha.run pos pins s σ H _ I h) ?_) he hpl
  rintro us s1 ⟨vs, H1, I1, r, q⟩
  refine ⟨I1.kIn, ?_⟩
  rw [List.append_nil] at q
  have hl : us.length = ps.length := r.length ▸ F.len _ _ _ _ q
  have bd := b s1 us I1.kIn (by rw [List.append_nil]; exact hl)
  rw [List.append_nil] at bd
  refine wpAny_call (codeAny_mono (F.go X.A X.stack s1 H1 ⟨us, []⟩ us vs Q E hG hr I1.env0 bd r q) ?_)
  rintro (er | fl) s' z
  · exact hx pins σ H1 s1 er s' I1 z
  · cases fl <;> first | exact I1.after z | exact False.elim z
end
/-! the law's end -/
/-- ahead of the law: the script, if it is not written, and the tables -/
def hpA (K : PySem.W.Frag) (a : Addr) (sc : HO) (ts : List Addr) : Hp := fun b => if b = a ∧ K.lookup a = none then some sc else if b ∈ ts then some (.tbl #[]) else none
theorem hpA_cases {K : PySem.W.Frag} {a b : Addr} {sc u : HO} {ts : List Addr} (h : hpA K a sc ts b = some u) : (b = a ∧ K.lookup a = none ∧ u = sc) ∨ (b ∈ ts ∧ u = .tbl #[]) := by
  unfold hpA at h
  split at h
  · rename_i z
    exact .inl ⟨z.1, z.2, (Option.some.inj h).symm⟩
  · split at h
    · rename_i z
      exact .inr ⟨z, (Option.some.inj h).symm⟩
    · cases h
theorem hpA_tab {K : PySem.W.Frag} {a b : Addr} {sc : HO} {ts : List Addr} (hb : b ∈ ts) (ha : a ∉ ts) : hpA K a sc ts b = some (.tbl #[]) := by
  unfold hpA
  rw [if_neg (show ¬ (b = a ∧ K.lookup a = none) from fun z => ha (z.1 ▸ hb)), if_pos hb]
theorem hpA_none {K : PySem.W.Frag} {a b : Addr} {sc : HO} {ts : List Addr} (h : ∀ u, hpA K a sc ts b ≠ some u) : hpA K a sc ts b = none := by
  cases e : hpA K a sc ts b with
  | none => rfl
  | some u => exact absurd e (h u)
abbrev oScr (vs : List Value) : Obj := { cls := .type "list", data := .seq vs.toArray }
abbrev oTab : Obj := { cls := .none, data := .fields #[] }
/-- the script as it stands ahead of the law: nothing may change it -/
def SqF (K : PySem.W.Frag) (H : Hp) (a : Addr) (xs : List V) : Prop := (∃ o, H a = some (.frz o (.lst xs))) ∨
  ∃ (o : Obj) (its : Array Value) (n : Nat), K.lookup a = some o ∧ o.cls = .type "list" ∧ o.dict = none ∧ o.data = .seq its n ∧ its.size ≤ sizeLine ∧ Vals xs its.toList
theorem SqF.sq {K : PySem.W.Frag} {H : Hp} {a : Addr} {xs : List V} (h : SqF K H a xs) : SqL K H a xs := h.elim (fun z => .inl (.inr z)) .inr
theorem law_callG {P : Program} {w : World} {K : PySem.W.Frag} {mg mb : Str → Option Value} {CX : CXT} {k : Nat} {fa a : Addr} {cs : List (Addr × Addr)} {fd : FuncData} {x : Str} {sp : Sp} {s₁ : Shared} {vs : List Value} {ns : List Int}
    (KX : K.In s₁.heap) (hns : s₁.heap.Ns mainGlobals mg) (hb : s₁.heap.Ns builtinsNs mb) (hbb : ∀ y : Str, y ≠ "__name__" → mb y = bootBuiltins y) (hlim : s₁.heap.NoLimit) (hg : s₁.gens = #[])
    (hT : ∀ p ∈ cs, s₁.heap.get? p.2 = some oTab) (nT : ∀ p ∈ cs, K.lookup p.2 = none) (C : ∀ p ∈ cs, PySem.W.CodeHd s₁.heap p.1 p.2)
    (hbm : ∃ (bm : Addr) (ob : Obj), mg "__builtins__" = some (.ref bm) ∧ bm ≠ builtinsNs ∧ s₁.heap.get? bm = some ob ∧ ob.cls = .type "module" ∧ ob.dict = some builtinsNs ∧ ob.data = .plain)
    (ha : s₁.heap.get? a = some (oScr vs)) (hi : IntsAre vs ns) (hl : ns.length ≤ sizeLine) (hr : Room k callerA)
    (F : ∀ base : Heap, K.In base → base.Ns mainGlobals mg → (∀ p ∈ cs, TabB base mg p.1 p.2) → FnG P w K mg base CX k fa fd [x] sp) (hbind : ∀ (s : Shared) (u : Value), BindsTo s fd ⟨[u], []⟩ [(x, u)])
    (hsp : ∀ H : Hp, (∀ p ∈ cs, H p.2 = some (.tbl #[])) → SqF K H a (ns.map V.int) → sp [.ref a] H (fun v _ => v = .bl true) fun _ _ _ => False)
    (hCX : ∀ H e s', CX [] H s₁ (fun _ _ _ => False) e s' → False) :
    codeAny (model P w) callerA (.call (.ref fa) ⟨[.ref a], []⟩) (fun r s' => r = .ok (.ret (.bool true)) ∧ OldK s₁.heap s'.heap ∧ s'.os = s₁.os ∧ AllBare s'.gens) s₁ := by
  have rv := vals_ints hi
  have elen : vs.length = ns.length := hi.length
  generalize ets : cs.map (·.2) = ts
  have tb : ∀ b, b ∈ ts → ∃ p ∈ cs, p.2 = b := fun b z => by rw [← ets] at z; exact List.mem_map.mp z
  have bt : ∀ p, p ∈ cs → p.2 ∈ ts := fun p z => by rw [← ets]; exact List.mem_map.mpr ⟨p, z, rfl⟩
  have at' : ∀ b, b ∈ ts → s₁.heap.get? b = some oTab := fun b z => by
    obtain ⟨p, hp, rfl⟩ := tb b z
    exact hT p hp
  have na : a ∉ ts := fun z => by
    have y := (at' a z).symm.trans ha
    have y2 : Data.fields #[] = Data.seq vs.toArray _ := congrArg Obj.data (Option.some.inj y)
    cases y2
  let sc : HO := .frz (oScr vs) (.lst (ns.map V.int))
  let H := hpA K a sc ts
  -- what is neither the script nor a table is not told
  have free : ∀ {b : Addr} {o : Obj}, s₁.heap.get? b = some o → o ≠ oScr vs → o ≠ oTab → H b = none := fun {b o} e n1 n2 => hpA_none fun u z => by
    rcases hpA_cases z with ⟨rfl, _, _⟩ | ⟨m, _⟩
    · exact n1 (Option.some.inj (e.symm.trans ha))
    · exact n2 (Option.some.inj (e.symm.trans (at' b m)))
  have noscr : ∀ {o : Obj}, (∀ l n, o.data ≠ .seq l n) → o ≠ oScr vs := fun n z => n _ _ (congrArg Obj.data z)
  have notab : ∀ {o : Obj}, o.data ≠ .fields #[] → o ≠ oTab := fun n z => n (congrArg Obj.data z)
  have hid : ∀ {b : Addr} {o : Obj}, s₁.heap.get? b = some o → o ≠ oScr vs → o ≠ oTab → (hidT s₁.heap H).get? b = some o := fun e n1 n2 => hidT_get e (free e n1 n2)
  have keepNs : ∀ {b : Addr} {m : Str → Option Value}, s₁.heap.Ns b m → (hidT s₁.heap H).Ns b m := fun {b m} z => by
    obtain ⟨o, es, ep, e, d, r⟩ := z
    refine ⟨o, es, ep, hid e (noscr fun l n y => ?_) (notab fun y => ?_), d, r⟩ <;> (rw [d] at y; cases y)
  have bIn : K.In (hidT s₁.heap H) := fun b o e => hidT_get (KX b o e) (hpA_none fun u z => by
    rcases hpA_cases z with ⟨rfl, n, _⟩ | ⟨m, _⟩
    · rw [n] at e; cases e
    · obtain ⟨p, hp, rfl⟩ := tb b m
      rw [nT p hp] at e; cases e)
  obtain ⟨mc, lim1, lim2⟩ := hlim
  have bMod : L2.Mod K mg (hidT s₁.heap H) := ⟨bIn, keepNs hns, ⟨mb, keepNs hb, hbb⟩, ⟨mc, keepNs lim1, lim2⟩⟩
  have hok : HOk P w H s₁.heap := fun b u z => by
    rcases hpA_cases z with ⟨rfl, _, rfl⟩ | ⟨m, rfl⟩
    · exact ⟨ha, by rw [List.length_map]; exact hl, vs, _, rv, ha⟩
    · exact at' b m
  have sq : SqF K H a (ns.map V.int) := by
    cases lk : K.lookup a with
    | none => exact .inl (⟨oScr vs, by show hpA K a sc ts a = _; unfold hpA; rw [if_pos ⟨rfl, lk⟩]⟩)
    | some o =>
      have eo : o = oScr vs := Option.some.inj ((KX a o lk).symm.trans ha)
      subst eo
      exact .inr ⟨_, vs.toArray, _, lk, rfl, rfl, rfl, by rw [List.size_toArray, elen]; exact hl, by simpa using rv⟩
  have tabs : ∀ p ∈ cs, TabB (hidT s₁.heap H) mg p.1 p.2 := fun p hp => by
    have tp := hT p hp
    constructor
    · obtain ⟨o, us, file, tf, flags, tg, inF, text, tt, e1, r1, r2, r3, rest⟩ := C p hp
      refine ⟨o, us, file, tf, flags, tg, inF, text, tt, hid e1 (noscr fun l n y => ?_) (notab fun y => ?_), r1, r2, r3, rest⟩
      · rw [r2] at y; cases y
      · rw [r2] at y; cases y
        simp at r3
    · obtain ⟨bm, ob, b1, b2, b3, b4, b5, b6⟩ := hbm
      refine ⟨bm, ob, b1, b2, fun y => ?_, fun y => ?_, hid b3 (noscr fun l n y => ?_) (notab fun y => ?_), b4, b5, b6⟩
      · obtain ⟨o, es, ep, e, d, _⟩ := hns
        subst y
        rw [e] at b3; cases b3
        rw [d] at b6; cases b6
      · subst y
        rw [tp] at b3; cases b3; cases b6
      all_goals (rw [b6] at y; cases y)
    · intro y
      obtain ⟨o, es, ep, e, d, _⟩ := hns
      rw [y, tp] at e; cases e; cases d
  have env : Env0 P w K mg (hidT s₁.heap H) callerA [] s₁ H := ⟨rfl, bMod, fun _ _ => of_hidT, Nat.le_of_eq (hidT_size _ _), trivial, fun _ z => (nomatch (show _ ∈ ([] : List Addr) from z)), hok, .of_eq hg⟩
  refine codeAny_mono ((F _ bIn (keepNs hns) tabs).go callerA [] s₁ H ⟨[.ref a], []⟩ [.ref a] [.ref a] _ _ rfl hr env (hbind s₁ (.ref a)) (.cons rfl .nil) (hsp H (fun p hp => hpA_tab (bt p hp) na) sq)) ?_
  rintro (er | fl) s' z
  · exact (hCX H er s' z).elim
  cases fl with
  | ret u =>
    obtain ⟨v, H', eos, bare, un, ok', ru, ev⟩ := z
    have ev : v = .bl true := ev
    subst ev
    have eu : u = Value.bool true := ru
    subst eu
    have kept : ∀ b o, b ∉ ts → s₁.heap.get? b = some o → s'.heap.get? b = some o := fun b o nb e => by
      cases hb : H b with
      | none => exact un.keep b o e hb (fun y => nomatch (show b ∈ ([] : List Addr) from y)) (fun y => nomatch y)
      | some c =>
        rcases hpA_cases hb with ⟨_, _, rfl⟩ | ⟨m, _⟩
        · have k1 := (ok' b _ (un.frzs b _ _ hb)).1
          have k0 := (hok b _ hb).1
          have eo := Option.some.inj (k0.symm.trans e)
          rw [← eo]
          exact k1
        · exact absurd m nb
    have more : ∀ b, b ∈ ts → ∃ m : Array Value, s'.heap.get? b = some { cls := .none, data := .fields m } := fun b m => by
      obtain ⟨q, y⟩ := un.tbls b #[] (hpA_tab m na)
      exact ⟨_, ok' b _ y⟩
    refine ⟨rfl, ⟨fun b o e => ?_, fun b o e => ?_⟩, eos, bare⟩
    · by_cases m : b ∈ ts
      · obtain ⟨q, y⟩ := more b m
        have eo := Option.some.inj (e.symm.trans (at' b m))
        subst eo
        obtain ⟨p, hp, rfl⟩ := tb b m
        exact .inr (.inl ⟨((C p hp).tab (hT p hp)).isCodeTable, rfl, #[], q, rfl, by rw [Array.empty_append]; exact y⟩)
      · exact .inl (kept b o m e)
    · by_cases m : b ∈ ts
      · obtain ⟨q, y⟩ := more b m
        exact ⟨_, y⟩
      · exact ⟨o, kept b o m e⟩
  | next => exact False.elim z
  | brk => exact False.elim z
  | cont => exact False.elim z
/-- what the head's heap h tells of the law -/
def LawAtG (l : PySem.W.OpenLaw) (w : World) (K : PySem.W.Frag) (CX : CXT) (k n : Nat) (x : Str) (mg : Str → Option Value) (fa : Addr) (h : Heap) : Prop :=
  ∃ (fd : FuncData) (cs : List (Addr × Addr)) (sp : Sp), (∀ p ∈ cs, h.get? p.2 = some oTab) ∧ (∀ p ∈ cs, K.lookup p.2 = none) ∧ (∀ p ∈ cs, PySem.W.CodeHd h p.1 p.2) ∧ (∀ (s : Shared) (u : Value), BindsTo s fd ⟨[u], []⟩ [(x, u)]) ∧
    (∀ (H : Hp) (a : Addr) (ns : List Int), ns.length ≤ n → (∀ z ∈ ns, Builtin.Int.intBits z ≤ 1048576) → (∀ p ∈ cs, H p.2 = some (.tbl #[])) → SqF K H a (ns.map V.int) → sp [.ref a] H (fun v _ => v = .bl true) fun _ _ _ => False) ∧
    ∀ base : Heap, K.In base → base.Ns mainGlobals mg → (∀ p ∈ cs, TabB base mg p.1 p.2) → FnG l.prog w K mg base CX k fa fd [x] sp
theorem walk_ofG {l : PySem.W.OpenLaw} {n k : Nat} {q : Program} {loose : List Str} {XP : (Str → Option Value) → Heap → Prop} {YP : World → Heap → Prop} {d : DefRec} {CX : World → CXT} {x : Str}
    (hn : l.most = some n) (hn2 : n ≤ sizeLine) (hdf : d.params.defaults = []) (hr : Room k callerA)
    (F : ∀ (w : World) (mg : Str → Option Value) (fa : Addr) (h : Heap), YP w h → h.Ns mainGlobals mg → mg d.name = some (.ref fa) → ∃ K : PySem.W.Frag, K.In h ∧ LawAtG l w K (CX w) k n x mg fa h)
    (hCX : ∀ (w : World) (H : Hp) (s : Shared) (e : Value) (s' : Shared), CX w [] H s (fun _ _ _ => False) e s' → False) :
    PySem.W.WalkO q loose XP YP l.row.toRowW d [] (fun f vs => PySem.call f vs) := by
  refine Att.attach_callB hn hdf ?_
  intro w s₀ s₁ mg mb fa o pm cd doc a vs ns G Y _ _ _ hmg hobj hints hlen hbits hg
  obtain ⟨K, KX, fd, cs, sp, hT, nT, C, hb, hsp, hF⟩ := F w mg fa _ Y G.T.g hmg
  exact law_callG KX G.T.g G.T.b G.T.builtins G.T.nolimit hg hT nT C G.T.bmain hobj hints (Nat.le_trans hlen hn2) hr hF hb (fun H t z => hsp H a ns hlen hbits t z) fun H e s' z => hCX w H s₁ e s' z
end AF
/-! values that are data, shown by repr; a caught error's fields and classes; several clauses that name the error -/
namespace AF
open PySem PySem.Spec PyProof.Rows L2
/-- a number or a text, as a dict's value -/
inductive Fl where
  | int (i : Int)
  | str (x : Str)
def Fl.v : Fl → V
  | .int i => .int i
  | .str x => .str x
def Fl.d : Fl → PyData
  | .int i => .int i
  | .str x => .str x
def flK (l : List (Str × Fl)) : List (Key × V) := l.map fun p => (.inr p.1, p.2.v)
def flD (l : List (Str × Fl)) : List (PyData × PyData) := l.map fun p => (.str p.1, p.2.d)
mutual
/-- a value by its data -/
inductive Pv (H : Hp) : V → PyData → Prop
  | non : Pv H .non .none
  | bl (b : Bool) : Pv H (.bl b) (.bool b)
  | int (i : Int) : Pv H (.int i) (.int i)
  | str (x : Str) : Pv H (.str x) (.str x)
  | lst {a : Addr} {xs : List V} {ds : List PyData} (e : H a = some (.lst xs)) (r : PvAll H xs ds) : Pv H (.ref a) (.list ds)
  | tup {a : Addr} {xs : List V} {ds : List PyData} (e : H a = some (.tup xs)) (r : PvAll H xs ds) : Pv H (.ref a) (.tuple ds)
  | d0 {a : Addr} (e : H a = some (.dK [])) : Pv H (.ref a) (.dict [])
  | d1 {a : Addr} {i j : Int} (e : H a = some (.dK [(.inl i, .int j)])) : Pv H (.ref a) (.dict [(.int i, .int j)])
  | d2 {a : Addr} {l : List (Str × Fl)} {ps : List (PyData × PyData)} (e : H a = some (.dK (flK l))) (q : flD l = ps) : Pv H (.ref a) (.dict ps)
inductive PvAll (H : Hp) : List V → List PyData → Prop
  | nil : PvAll H [] []
  | cons {v : V} {vs : List V} {d : PyData} {ds : List PyData} (h : Pv H v d) (r : PvAll H vs ds) : PvAll H (v :: vs) (d :: ds)
end
mutual
theorem Pv.ch {H H' : Hp} (c : Ch [] H H') : ∀ (d : PyData) (v : V), Pv H v d → Pv H' v d
  | .none, _, h => by cases h; exact .non
  | .bool b, _, h => by cases h; exact .bl b
  | .int i, _, h => by cases h; exact .int i
  | .str x, _, h => by cases h; exact .str x
  | .list ds, _, h => by cases h with | lst e r => exact .lst (c _ _ e List.not_mem_nil) (PvAll.ch c ds _ r)
  | .tuple ds, _, h => by cases h with | tup e r => exact .tup (c _ _ e List.not_mem_nil) (PvAll.ch c ds _ r)
  | .dict ps, _, h => by cases h with
    | d0 e => exact .d0 (c _ _ e List.not_mem_nil)
    | d1 e => exact .d1 (c _ _ e List.not_mem_nil)
    | d2 e q => exact .d2 (c _ _ e List.not_mem_nil) q
theorem PvAll.ch {H H' : Hp} (c : Ch [] H H') : ∀ (ds : List PyData) (vs : List V), PvAll H vs ds → PvAll H' vs ds
  | [], _, h => by cases h; exact .nil
  | d :: ds, _, h => by cases h with | cons k r => exact .cons (Pv.ch c d _ k) (PvAll.ch c ds _ r)
end
mutual
/-- without dicts -/
def noDicB : PyData → Bool
  | .list ds => noDicsB ds
  | .tuple ds => noDicsB ds
  | .dict _ => false
  | _ => true
def noDicsB : List PyData → Bool
  | [] => true
  | d :: ds => noDicB d && noDicsB ds
end
mutual
theorem Pv.dp {K : PySem.W.Frag} {H : Hp} : ∀ (d : PyData) (v : V), Pv H v d → noDicB d = true → Dp K H v d
  | .none, _, h, _ => by cases h; exact .non
  | .bool b, _, h, _ => by cases h; exact .bl b
  | .int i, _, h, _ => by cases h; exact .int i
  | .str x, _, h, _ => by cases h; exact .str x
  | .list ds, _, h, n => by cases h with | lst e r => exact .lst (SqL.of e) (PvAll.dp ds _ r n)
  | .tuple ds, _, h, n => by cases h with | tup e r => exact .tup (SqT.of e) (PvAll.dp ds _ r n)
  | .dict ps, _, _, n => by cases n
theorem PvAll.dp {K : PySem.W.Frag} {H : Hp} : ∀ (ds : List PyData) (vs : List V), PvAll H vs ds → noDicsB ds = true → DpAll K H vs ds
  | [], _, h, _ => by cases h; exact .nil
  | d :: ds, _, h, n => by
    cases h with
    | cons k r =>
      obtain ⟨n1, n2⟩ := Bool.and_eq_true_iff.mp n
      exact .cons (Pv.dp d _ k n1) (PvAll.dp ds _ r n2)
end
mutual
theorem noDic_has : ∀ d : PyData, noDicB d = true → d.hasDict = false
  | .none, _ => rfl
  | .bool _, _ => rfl
  | .int _, _ => rfl
  | .str _, _ => rfl
  | .list ds, h => noDics_has ds h
  | .tuple ds, h => noDics_has ds h
  | .dict _, h => by cases h
theorem noDics_has : ∀ ds : List PyData, noDicsB ds = true → PyData.hasDictAll ds = false
  | [], _ => rfl
  | d :: ds, h => by
    obtain ⟨h1, h2⟩ := Bool.and_eq_true_iff.mp h
    simp only [PyData.hasDictAll, noDic_has d h1, noDics_has ds h2, Bool.or_false]
end
theorem vals1' {v : V} {us : List Value} (r : Vals [v] us) : ∃ u, us = [u] ∧ RelV v u := by
  cases r with
  | cons h t => cases t; exact ⟨_, rfl, h⟩
/-- the type's name -/
def tyN : PyData → String
  | .none => "NoneType"
  | .bool _ => "bool"
  | .int _ => "int"
  | .str _ => "str"
  | .list _ => "list"
  | .tuple _ => "tuple"
  | .dict _ => "dict"
theorem Pv.ty {K : PySem.W.Frag} {H : Hp} {v : V} {d : PyData} (h : Pv H v d) : TyX K H v (.type (tyN d)) := by
  cases h with
  | non => exact .base .non
  | bl b => exact .base (.bl b)
  | int i => exact .base (.int i)
  | str x => exact .base (.str x)
  | lst e r => exact .base (.lst e)
  | tup e r => exact .base (.tup e)
  | d0 e => exact .base (.dK e)
  | d1 e => exact .base (.dK e)
  | d2 e _ => exact .base (.dK e)
/-- isinstance(x, T), T a built-in type -/
theorem g_isP {K : PySem.W.Frag} {H : Hp} {Q : VK} {v : V} {d : PyData} {T : String} {b : Bool} (h : Pv H v d) (e : kitB (tyN d) T = some b) (q : Q (.bl b) H) : rIsi K [v, .ty T] H Q := g_isi (.ty T) h.ty (kit_ty e) q
def topD : PyData → Bool
  | .dict _ => true
  | _ => false
section
variable {X : Cx} {pins : List (Addr × Obj)} {σ : L2.St} {H : Hp} {s : Shared}
def encK : Key → PyData
  | .inl i => .int i
  | .inr x => .str x
theorem Pv.reads (I : Inv X pins σ H s) {v : V} {u : Value} {d : PyData} (h : Pv H v d) (r : RelV v u) (n : noDicB d = true ∨ topD d = true) : ∃ as, Reads s.heap u d as ∧ (topD d = true → sysModules ∉ as) := by
  rcases n with n | n
  · obtain ⟨as, z⟩ := Dp.reads I d v u (h.dp (K := X.K) d v n) r
    exact ⟨as, z, fun y => by cases d <;> first | (cases y; done) | (cases n; done)⟩
  · have key : ∀ (k : Key) (kv : Value), (mixKind X.prog X.w).is k kv = true → Reads s.heap kv (encK k) [] := fun k kv e => by
      rcases keyIs_shape (show keyIs k kv = true from e) with ⟨i, t, rfl, rfl⟩ | ⟨x, t, rfl, rfl⟩
      · exact .int i t
      · exact .str x t
    have fin : ∀ {a : Addr}, (a == sysModules) = false → sysModules ∉ [a] := fun sm z => by
      rw [List.mem_singleton] at z
      rw [← z] at sm
      simp at sm
    cases h with
    | d0 e =>
      rename_i a
      cases (show u = Value.ref a from r)
      obtain ⟨_, sm, vs, kv, dd⟩ := (show ObjOk X.prog X.w H s.heap a (.dK []) from I.hok a _ e)
      cases (show Paired _ [] vs from kv)
      exact ⟨_, PyProof.V.reads_dictOf (enc := encK) key dd .nil, fun _ => fin sm⟩
    | d1 e =>
      rename_i a i j
      cases (show u = Value.ref a from r)
      obtain ⟨_, sm, vs, kv, dd⟩ := (show ObjOk X.prog X.w H s.heap a (.dK _) from I.hok a _ e)
      cases (show Paired _ _ vs from kv) with
      | @cons p q ps qs h1 h2 =>
        cases h2
        obtain ⟨k, y⟩ := q
        obtain ⟨e1, e2⟩ := h1
        cases (show (Sum.inl i : Key) = k from e1)
        obtain ⟨t, rfl⟩ := (show ∃ t, y = Value.int j t from e2)
        exact ⟨_, PyProof.V.reads_dictOf (enc := encK) (D := [(.int i, .int j)]) key dd (PyProof.V.PairsRead.cons (.int j t) .nil), fun _ => fin sm⟩
    | @d2 a l _ e q =>
      cases (show u = Value.ref a from r)
      obtain ⟨_, sm, vs, kv, dd⟩ := (show ObjOk X.prog X.w H s.heap a (.dK (flK l)) from I.hok a _ e)
      have pr : ∀ (l : List (Str × Fl)) (vs : List (Key × Value)), Paired (fun p q => p.1 = q.1 ∧ RelV p.2 q.2) (flK l) vs → PyProof.V.PairsRead s.heap encK vs (flD l) [] := fun l => by
        induction l with
        | nil => intro vs kv; cases kv; exact .nil
        | cons p t ih =>
          intro vs kv
          cases kv with
          | @cons p' q' ps qs h1 h2 =>
            have z := ih _ h2
            obtain ⟨k, y⟩ := q'
            obtain ⟨e1, e2⟩ := h1
            obtain ⟨z1, z2⟩ := p
            cases (show (Sum.inr z1 : Key) = k from e1)
            cases z2 with
            | int i =>
              obtain ⟨t, rfl⟩ := (show ∃ t, y = Value.int i t from e2)
              exact .cons (.int i t) z
            | str x =>
              obtain ⟨t, rfl⟩ := (show ∃ t, y = Value.str x t from e2)
              exact .cons (.str x t) z
      rw [← q]
      exact ⟨_, PyProof.V.reads_dictOf (enc := encK) key dd (pr l vs kv), fun _ => fin sm⟩
    | _ => cases n
end
/-- what repr may show at once -/
def showB (d : PyData) : Bool := d.showable && (Nat.ble d.depth 60 && (Nat.ble d.shown.length 1000 && (noDicB d || topD d)))
/-- repr of a value -/
inductive RepO (H : Hp) : V → Str → Prop
  | non : RepO H .non "None"
  | bl (b : Bool) : RepO H (.bl b) (if b then "True" else "False")
  | int {i : Int} (h : i.natAbs.log2 < 1920) : RepO H (.int i) (toString i)
  | str {x : Str} (h : Nat.ble (reprText x).length 1000 = true) : RepO H (.str x) (reprText x)
  | box {a : Addr} {d : PyData} (h : Pv H (.ref a) d) (s : showB d = true) : RepO H (.ref a) d.shown
theorem RepO.ch {H H' : Hp} {v : V} {z : Str} (h : RepO H v z) (c : Ch [] H H') : RepO H' v z := by
  cases h with
  | non => exact .non
  | bl b => exact .bl b
  | int h => exact .int h
  | str h => exact .str h
  | box h s => exact .box (h.ch c) s
theorem RepO.of {H : Hp} {v : V} {d : PyData} (h : Pv H v d) (s : showB d = true) : RepO H v d.shown := by
  obtain ⟨s1, s2⟩ := Bool.and_eq_true_iff.mp s
  obtain ⟨s2, s3⟩ := Bool.and_eq_true_iff.mp s2
  obtain ⟨s3, s4⟩ := Bool.and_eq_true_iff.mp s3
  cases h with
  | non => simp only [PyData.shown]; exact .non
  | bl b => simp only [PyData.shown]; exact .bl b
  | int i => simp only [PyData.shown]; exact .int (of_decide_eq_true s1)
  | str x => simp only [PyData.shown] at s3 ⊢; exact .str s3
  | lst e r => exact .box (.lst e r) s
  | tup e r => exact .box (.tup e r) s
  | d0 e => exact .box (.d0 e) s
  | d1 e => exact .box (.d1 e) s
  | d2 e q => exact .box (.d2 e q) s
def rRep : List V → Hp → VK → Prop := fun xs H Q => ∃ v z, xs = [v] ∧ RepO H v z ∧ Q (.str z) H
theorem cl_rep {X : Cx} (hG : X.A.guards = some []) (hu : X.A.units + 100 < cLine) : CallR X (.builtin "repr") rRep := by
  intro pins s σ H xs us Q I r h
  obtain ⟨v, z, rfl, hz, q⟩ := h
  obtain ⟨u, rfl, ru⟩ := vals1' r
  cases hz with
  | non => cases ru; exact PySem.P.repr_of_none ⟨.str _, H, I.tok _, ⟨_, rfl⟩, q⟩
  | bl b => cases ru; exact PySem.P.repr_of_bool ⟨.str _, H, I.tok _, ⟨_, rfl⟩, q⟩
  | int hi =>
    obtain ⟨t, rfl⟩ := ru
    exact PySem.P.repr_of_int hi ⟨.str _, H, I.tok _, ⟨_, rfl⟩, q⟩
  | str hx =>
    obtain ⟨t, rfl⟩ := ru
    exact PySem.P.repr_of_str ⟨.str _, H, I.tok _, ⟨_, rfl⟩, q⟩ (line_of hx)
  | @box a d hp sh =>
    obtain ⟨s1, s2⟩ := Bool.and_eq_true_iff.mp sh
    obtain ⟨s2, s3⟩ := Bool.and_eq_true_iff.mp s2
    obtain ⟨s3, s4⟩ := Bool.and_eq_true_iff.mp s3
    have s2 := Nat.le_of_ble_eq_true s2
    have nd : noDicB d = true ∨ topD d = true := Bool.or_eq_true_iff.mp s4
    obtain ⟨as, rd, sm⟩ := hp.reads I ru nd
    cases (show u = Value.ref a from ru)
    have hd : d.hasDict = true → topD d = true := fun y => nd.elim (fun n => absurd y (by rw [noDic_has d n]; simp)) id
    exact repr_of_reads' rd s1 (fun y => sm (hd y)) hG (by omega) (fun _ _ e => e) (fun h' t tk k => ⟨.str _, H, I.kept k, ⟨_, rfl⟩, q⟩) (line_of s3)
end AF
/-! isinstance of a caught error that has a dict; several clauses that name the error -/
namespace AF
open PySem PySem.Spec PyProof.Rows L2
section
open PySem.W (Frag InstAt Looks findIn specialIn takesIn clsIn hasDictIn looks_findIn looks_find looks_subIn any_some KitX class_get)
variable {prog : Program} {w : World} {A : Around} {E : Value → Shared → Prop} {s : Shared} {K : Frag} {x D : Addr} {ox : Obj} {od : Option Obj}
/-- a data descriptor of the class is asked ahead of the own dict -/
theorem find_data {nm : Str} {f g : Value} (hc : (clsIn K D).isSome = true) (h1 : findIn K (.ref D) nm = some (some f)) (h2 : specialIn K f "__get__" = some (some g)) (h3 : takesIn K f = some true) : PySem.W.findObj K D od nm = some (.bind g f) := by
  cases e : clsIn K D with
  | none => rw [e] at hc; cases hc
  | some cd =>
    unfold PySem.W.findObj
    simp only [e, h1, h2, h3, Option.bind_some]
open PySem.Calls in
theorem err_class {Q : Option Value → Shared → Prop} (C : ExcC K D) (KX : K.In s.heap) (I : InstAt s.heap x ox D od) (q : Q (some (.ref D)) { s with toks := s.toks + 1 }) : wpAny (model prog w) A (getAttr? (.ref x) "__class__") Q E s := by
  have isC : (clsIn K D).isSome = true := by
    obtain ⟨cd, e, _⟩ := any_some C.hd
    rw [e]; rfl
  have found := find_data (od := od) isC C.ha C.hn C.ht
  obtain ⟨hh, gs, dr, tk, os⟩ := s
  have lt := I.type (M := model prog w)
  have lg := looks_findIn (M := model prog w) KX C.hg
  have lk := looks_findIn (M := model prog w) KX C.hk
  have lf := looks_find (M := model prog w) KX I found
  have lb : Looks (model prog w) hh (isInstance (.ref x) (.type "BaseException")) true := lt.andThen (looks_subIn KX C.hs)
  have b0 : (Value.builtin "BaseException.__getattribute__" == Value.builtin "object.__getattribute__") = false := by decide +kernel
  unfold getAttr? getAttrBy? getAttrBy
  refine wpAny_bind (wpAny_mkText (wpAny_bind (wpAny_attempt (wpAny_holding (wpAny_bind (lt.at (wpAny_bind (lg.at ?_))))))))
  have b1 : ¬ (onTheHeap (Value.ref D) && Value.builtin "BaseException.__getattribute__" == Value.builtin "object.__getattribute__") = true := by rw [b0, Bool.and_false]; exact Bool.false_ne_true
  dsimp only
  rw [if_neg b1]
  unfold getAttrByItsOwn hookBefore
  refine wpAny_bind ?_
  rw [if_pos (show onTheHeap (Value.ref D) = true from rfl)]
  refine lk.at (wpAny_bind (wpAny_attempt (wpAny_holding ?_)))
  unfold callGetattribute
  rw [if_neg (show ¬ (false && onTheHeap (Value.builtin "BaseException.__getattribute__")) = true from Bool.false_ne_true)]
  unfold boundAndCalled
  rw [PySem.F.excAttr_ValueError.ga.bind (.ref x)]
  refine wpAny_bind (wpAny_pure (wpAny_call (codeAny_call_builtin PySem.F.excAttr_ValueError.ga.plain PySem.F.entry_bexc_ga ?_)))
  refine @PySem.W.check_slot (model prog w) _ _ ⟨hh, gs, dr, tk + 1, os⟩ "BaseException.__getattribute__" "BaseException" "__getattribute__" (.ref x) [.str "__class__" tk] [] _ (by decide +kernel) (by decide +kernel) lb (PySem.F.args_bexc_ga _ _) ?_
  unfold Builtin.«object.__getattribute__»
  refine wpAny_bind (wpAny_of_eq (a := ((Value.ref x : Value), [Value.str "__class__" tk])) (by first | rfl | (simp only [slotArgs]; rfl)) (wpAny_bind (wpAny_pure (wpAny_bind (lt.at (wpAny_bind (lf.at ?_)))))))
  dsimp only
  refine wpAny_bind (wpAny_holding (wpAny_call (class_get (s := ⟨hh, gs, dr, tk + 1, os⟩) KX I C.hm ?_)))
  refine wpAny_pure ?_
  dsimp only
  rw [PySem.W.handedOut_of (v := .ref D) rfl]
  first
    | exact wpAny_pure (wpAny_pure q)
    | exact wpAny_pure q
    | exact wpAny_pure (wpAny_bind (wpAny_pure (wpAny_pure q)))
theorem kit_err (C : ExcC K D) : KitX K (.ref x) (.ref D) (fun h => InstAt h x ox D od) := by
  have there : ∀ h : Heap, K.In h → ∃ o cd, h.get? D = some o ∧ o.data = .cls cd := fun h KX => by
    obtain ⟨cd, e, _⟩ := any_some C.hd
    unfold clsIn at e
    split at e
    · rename_i c d cd' sl ho
      exact ⟨_, _, KX _ _ ho, rfl⟩
    · cases e
  refine ⟨fun _ _ _ I => I.type, fun M h KX _ => ?_, fun h tp dd its n sl KX htp => ?_, fun KX I k => err_class C KX I k⟩
  · obtain ⟨o, cd, ho, hd⟩ := there h KX
    intro A' Q' E' s' k q
    unfold isType loadHead
    refine wpAny_bind (wpAny_loadPart (k _ _ ho) ?_)
    rw [hd]
    exact wpAny_pure q
  · obtain ⟨o, cd, ho, hd⟩ := there h KX
    refine Bool.eq_false_iff.mpr fun z => ?_
    have e : D = tp := Value.ref.inj (beq_iff_eq.mp z)
    subst e
    have e2 := Option.some.inj (ho.symm.trans htp)
    subst e2
    cases hd
end
/-- isinstance(e, c), e the error that the suite holds, with its dict -/
def rIsX (K : PySem.W.Frag) (a : Addr) (cls : Value) (d : Option Addr) (C : Addr) : List V → Hp → VK → Prop := fun xs H Q => ∃ (c : V) (cv : Value) (b : Bool) (dd : Addr) (fs : List (Str × V)), xs = [.ref a, c] ∧ cls = .ref C ∧ d = some dd ∧ H dd = some (.xd fs) ∧
  ClsV c cv ∧ PySem.W.kitOne K (.ref C) cv = some b ∧ Q (.bl b) H
theorem cl_isX {X : Cx} {a C : Addr} {oe : Obj} {cls : Value} {d : Option Addr} {pn : List (Addr × Obj)} (T : ExcC X.K C) (hz : Zc cls d oe) (hf : ∃ vs, oe.data = .fields vs) : CallR (X.suite a ((a, oe) :: pn)) (.builtin "isinstance") (rIsX X.K a cls d C) := by
  intro pins s σ H xs us Q I r h
  obtain ⟨c, cv, b, dd, fs, rfl, rfl, rfl, hx, kc, e, q⟩ := h
  cases r with
  | @cons _ u0 _ ur rx rr =>
    cases rr with
    | @cons _ u1 _ ur2 rt rn =>
      cases rn
      cases (show u0 = Value.ref a from rx)
      have e1 := kc.eq rt
      subst e1
      obtain ⟨hget, _⟩ := I.pin (a, oe) (List.mem_append.mpr (.inl List.mem_cons_self))
      obtain ⟨vs, hv⟩ := hf
      obtain ⟨mA, ⟨od, es, ep, ho, hr⟩, rel⟩ := (show ObjOk X.prog X.w H s.heap dd (.xd fs) from I.hok dd _ hx)
      have J : PySem.W.InstAt s.heap a oe C (some od) := by
        refine ⟨hget, hz.1, ?_, ?_⟩
        · unfold PySem.W.notCls; rw [hv]
        · rw [hz.2]; exact ho
      exact PySem.W.kia_one (kit_err T) I.kIn J e (fun z => nomatch z) fun tk => ⟨.bl b, H, I.kept (t' := tk) fun _ _ z => z, rfl, q⟩
/-- steps: e.f, isinstance(e, c) -/
def kXf (a : Addr) (cls : Value) (d : Option Addr) (C : Addr) (f : Str) (Q : VK) (x : V) (H1 : Hp) : Prop := x = .ref a ∧ cls = .ref C ∧ ∃ (dd : Addr) (fs : List (Str × V)) (v : V), d = some dd ∧ H1 dd = some (.xd fs) ∧ fs.lookup f = some v ∧ Q v H1
section
variable {K : PySem.W.Frag} {H : Hp} {Q : VK} {a C dd : Addr} {f : Str} {v : V} {σ : L2.St} {te : TE} {cls : Value} {d : Option Addr}
instance : Step (tXf a cls d C f te σ H Q) (te σ H (kXf a cls d C f Q)) := ⟨fun h => h⟩
theorem g_xf {fs : List (Str × V)} (h : H dd = some (.xd fs)) (e : fs.lookup f = some v) (q : Q v H) : kXf a (.ref C) (some dd) C f Q (.ref a) H := ⟨rfl, rfl, dd, fs, v, rfl, h, e, q⟩
theorem g_isX {fs : List (Str × V)} {c : V} {cv : Value} {b : Bool} (h : H dd = some (.xd fs)) (kc : ClsV c cv) (e : PySem.W.kitOne K (.ref C) cv = some b) (q : Q (.bl b) H) : rIsX K a (.ref C) (some dd) C [.ref a, c] H Q :=
  ⟨c, cv, b, dd, fs, rfl, rfl, rfl, h, kc, e, q⟩
end
/-! several clauses, each one with the name n in slot i -/
def offI (i : Nat) (D : Ends) : Ends := { nx := fun σ H => D.nx (σ.set i none) H, rt := D.rt, bk := fun σ H => D.bk (σ.set i none) H, ct := fun σ H => D.ct (σ.set i none) H }
def wNam (K : PySem.W.Frag) (i : Nat) (Wout : WX) (D : Ends) : List (Value × (Addr → Value → Option Addr → TS)) → WX
  | [] => Wout
  | (c, ts) :: r => fun cls d σ H => ∃ b, PySem.W.exmOne K cls c = some b ∧ (b = true → ∀ a, H a = none → ts a cls d (offI i D) (σ.set i (some (.ref a))) H) ∧ (b = false → wNam K i Wout D r cls d σ H)
inductive HdN (X : Cx) (n : Str) : List ExceptHandler → List (Value × (Addr → Value → Option Addr → TS)) → Prop
  | nil : HdN X n [] []
  | cons {x : Str} {c : Value} {ts : Addr → Value → Option Addr → TS} {b₀ : Stmt} {suite : List Stmt} {np p' : Pos} {hds : List ExceptHandler} {l : List (Value × (Addr → Value → Option Addr → TS))} (hc : Names X x c)
      (hsu : ∀ (a : Addr) (oe : Obj) (cls : Value) (d : Option Addr) (pn : List (Addr × Obj)), Zc cls d oe → (∃ vs, oe.data = .fields vs) → PSs (X.suite a ((a, oe) :: pn)) (b₀ :: suite) (ts a cls d)) (r : HdN X n hds l) :
      HdN X n (.ExceptHandler (some (.Name x np)) (some n) (b₀ :: suite) p' :: hds) ((c, ts) :: l)
section
variable {X : Cx} {n : Str} {i : Nat} {body : List Stmt} {h₀ : ExceptHandler} {hds : List ExceptHandler} {l : List (Value × (Addr → Value → Option Addr → TS))} {pos : Pos} {tb : WX → TS} {Wout : WX}
theorem ps_try_nam (hs : X.stack = X.env :: X.outer) (hf : X.env.frame = some X.env.locals) (hN : X.N.Nodup) (hi : X.N[i]? = some n) (hln : X.env.kindOf n = some .local) (tk : Takes X Wout)
    (hb : ∀ (W : WX) (pn : List (Addr × Obj)) (xe : Value → Shared → Prop), Takes (X.tr pn xe) W → PassesOwn (model X.prog X.w) X.A X.env xe → PSs (X.tr pn xe) body (tb W))
    (hh : HdN X n (h₀ :: hds) l) : PS X (.Try body (h₀ :: hds) [] [] pos) (fun D σ H => tb (wNam X.K i Wout D l) D σ H) := by
  constructor
  intro pins s σ H D I h
  have ok := I.ok
  have frm : X.A.frames = some (X.env :: X.outer) := by rw [ok.frames, hs]
  have own : Loc X.env.scope n := .inl hln
  -- the suites, one behind the other, for the error at a
  let caught : Value → Shared → Prop := fun e s₁ => wpAny (model X.prog X.w) X.A (noteFrame e X.env) (fun _ s₂ => wpAny (model X.prog X.w) X.A (setFlight e none) (fun _ s₃ =>
    wpAny (model X.prog X.w) X.A (handleBy e X.env (h₀ :: hds)) (SP X pins D) X.xe s₃) X.xe s₂) X.xe s₁
  have land : Takes (X.tr (X.pn ++ pins) caught) (wNam X.K i Wout D l) := by
    rintro u s' ⟨a, B, sI, pins', σ', H', cls, d, rfl, J', nb, up, sky, na, eos, ag, w⟩
    have J : Inv X pins σ' H' sI := J'.ofTry ok
    have sky1 : Sky B (X.env :: X.outer) a (Zc cls d) X.env.locals s'.heap := by rw [← hs]; exact sky
    refine Sky.land Zc.steady frm hf sky1 fun h1 fl up1 => ?_
    have onGround : ∀ h2, B.StaysIn h2 → h1.UpToSlots h2 → Inv X pins σ' H' { s' with heap := h2 } := fun h2 st up2 => J.landed nb st ((up.trans up1).trans up2) eos ag
    have J1 := onGround h1 fl.1 (Heap.UpToSlots.refl _)
    obtain ⟨o1, v1, e1, z1, d1⟩ := fl.there
    have off : a ∉ frs (X.env :: X.outer) := fun m => by
      obtain ⟨_, o', e', nf⟩ := fl.2.2.1.mem m
      have y := Option.some.inj (e1.symm.trans e')
      subst y
      exact nf _ d1
    have nL : a ≠ X.env.locals := fun z => off (List.mem_filterMap.mpr ⟨X.env, List.mem_cons_self, by rw [hf, z]⟩)
    have nF : a ∉ X.fs := fun m => by
      obtain ⟨e, he, y⟩ := List.mem_filterMap.mp m
      exact off (List.mem_filterMap.mpr ⟨e, List.mem_cons_of_mem _ he, y⟩)
    have S1 := J1.suite e1 d1 na nL nF
    have each : ∀ {hs' : List ExceptHandler} {l' : List (Value × (Addr → Value → Option Addr → TS))}, HdN X n hs' l' → wNam X.K i Wout D l' cls d σ' H' →
        wpAny (model X.prog X.w) X.A (handleBy (.ref a) X.env hs') (SP X pins D) X.xe { s' with heap := h1 } := by
      intro hs' l' k
      induction k with
      | nil =>
        intro w
        refine wpAny_handleBy_nil ?_
        obtain ⟨_, _, _, oe, vs, T, oT, ts', he, hz, hd, hT, _⟩ := id fl
        unfold PySem.passOn
        refine wpAny_bind (wpAny_field he hd hT ?_)
        rw [if_neg (show ¬ ((Value.ref T == Value.none) = true) from by simp)]
        have out : wpAny (model X.prog X.w) X.A (setFlight (.ref a) X.env.frame) (fun _ s4 => wpAny (model X.prog X.w) X.A (throw (.ref a) : Sem Flow) (SP X pins D) X.xe s4) X.xe { s' with heap := h1 } := by
          rw [hf]
          exact HandSPX.setFlight_upZ fl fun h2 held up2 => wpAny_throw (tk _ _ ⟨a, B, sI, pins, σ', H', cls, d, rfl, J, nb, (up.trans up1).trans up2, .inr (.inr (by rw [hs]; exact held)), na, eos, ag, w⟩)
        first
          | exact wpAny_bind (wpAny_pure (wpAny_bind out))
          | exact wpAny_bind out
      | @cons x c ts b₀ suite np p' hd2 l2 hc hsu r ih =>
        intro w
        obtain ⟨b, hb1, yes, no⟩ := w
        refine wpAny_handleBy_cons (codeAny_handlers_test ?_) (fun q => nomatch q)
        have isT : PySem.W.Looks (model X.prog X.w) h1 (typeOf (.ref a)) cls := fun _ _ _ _ k q => wpAny_typeOf_ref (k _ _ e1) (by rw [z1.1]; exact q)
        have named : ∀ {Q E : Value → Shared → Prop}, Q c { s' with heap := h1 } → wpAny (model X.prog X.w) (X.A.mark (some (.ref a))) (eval (.Name x np) X.env) Q E { s' with heap := h1 } := fun q => by
          obtain ⟨hg, dbg, z⟩ := hc
          rcases z with z | ⟨z, zv, zn⟩
          · exact ld_glob (X := X.suite a ((a, o1) :: (X.pn ++ pins))) S1 hg z q dbg
          · exact ld_blt (X := X.suite a ((a, o1) :: (X.pn ++ pins))) S1 hg z zv q zn dbg
        refine named ((PySem.W.exm_one (M := model X.prog X.w) J1.kIn isT hb1).here ?_)
        cases b with
        | false =>
          show wpAny _ X.A (handleBy (.ref a) X.env hd2) _ _ _
          exact ih (no rfl)
        | true =>
          refine codeAny_handlers_suite_as (HandSPX.lands_againZ fl fun h2 fl2 up2 => ?_)
          have J2 := onGround h2 fl2.1 up2
          obtain ⟨o2, v2, e2, z2, d2⟩ := fl2.there
          refine store_ok (X := X.suite a ((a, o2) :: (X.pn ++ pins))) (v := .ref a) (J2.suite e2 d2 na nL nF) hN hi own rfl (fun s3 S3 => ?_) (.inr hln)
          refine wpAny_mono ((hsu a o2 cls d (X.pn ++ pins) z2 ⟨_, d2⟩).run [] s3 _ H' _ S3 (yes rfl a na)) ?_ (fun _ _ z => False.elim z)
          intro fw s4 hsp
          have gone : ∀ {σ4 : L2.St} {H4 : Hp} {R : Shared → Prop}, Inv (X.suite a ((a, o2) :: (X.pn ++ pins))) [] σ4 H4 s4 → (∀ s5, Inv X pins (σ4.set i none) H4 s5 → R s5) →
              wpAny (model X.prog X.w) X.A (do bindName X.env n .none; unbindBehindTheSuite X.env n p') (fun _ s5 => R s5) X.xe s4 := fun S4 hR => gone_ok (S4.unsuite ok) hN hi hln hR
          cases fw with
          | ret u =>
            obtain ⟨v4, σ4, H4, S4, r4, q4⟩ := hsp
            exact gone S4 fun s5 J5 => ⟨_, _, _, J5, r4, q4⟩
          | _ =>
            obtain ⟨σ4, H4, S4, q4⟩ := hsp
            exact gone S4 fun s5 J5 => ⟨_, _, J5, q4⟩
    exact each hh w
  refine wpAny_Try_except (wpAny_mono ((hb (wNam X.K i Wout D l) (X.pn ++ pins) caught land PassesOwn.looking).run [] s σ H D (I.toTry _) h) ?_ (fun e s1 z => z))
  intro fw s1 hsp
  cases fw with
  | next =>
    obtain ⟨σ1, H1, J1, q⟩ := hsp
    exact wpAny_execs_nil ⟨σ1, H1, J1.ofTry ok, q⟩
  | ret u =>
    obtain ⟨v, σ1, H1, J1, r, q⟩ := hsp
    exact ⟨v, σ1, H1, J1.ofTry ok, r, q⟩
  | _ =>
    obtain ⟨σ1, H1, J1, q⟩ := hsp
    exact ⟨σ1, H1, J1.ofTry ok, q⟩
end
end AF
/-! calls within a try: what is raised is wished for at the slots; x.get(k, v) of a dict; t.index(x) -/
namespace AF
open PySem PySem.Spec PyProof.Rows L2
def tCallW (sp : Sp) (W : WX) (t : TA) : TE := fun σ H Q => t σ H fun vs H1 => sp vs H1 Q (fun cls d H' => W cls d σ H')
section
variable {X : Cx} {k : Nat} {f : Addr} {ps : List Str} {sp : Sp} {W : WX} {x : Str} {p pos : Pos} {e : Expr} {es : List Expr} {t : TA}
theorem pe_dnW (D : Dn X.prog X.w X.K X.mg X.base k f ps sp) (hr : Room k X.A) (hg : Gl X x) (hm : X.mg x = some (.ref f)) (tk : Takes X W) (ha : PA X (e :: es) t) (hdb : (x == ("__debug__" : Str)) = false := by decide)
    (he : starEach (e :: es) X.env = (false, eval e X.env) :: starEach es X.env := by rfl) (hpl : (backTo pos (starEach es X.env)).any (·.1) = false := by rfl) : PE X (.Call (.Name x p) (e :: es) [] pos) (tCallW sp W t) := by
  obtain ⟨fd, F, b⟩ := D.ex
  have z := pe_callSD (E := fun σ cls d H' => W cls d σ H') (p := p) F hr hg hm D.kp b .nil (fun σ => fun pins H s e s' I c => tk e s' (XE.of_call I (fun _ _ _ h => h) c)) ha hdb he hpl
  refine ⟨fun pins s σ H Q I h => z.run pins s σ H Q I ?_⟩
  show t σ H fun vs H1 => sp (vs ++ []) H1 Q (fun cls d H' => W cls d σ H')
  have e1 : (fun (vs : List V) (H1 : Hp) => sp (vs ++ []) H1 Q (fun cls d H' => W cls d σ H')) = fun vs H1 => sp vs H1 Q (fun cls d H' => W cls d σ H') := by
    funext vs H1
    rw [List.append_nil]
  rw [e1]
  exact h
end
instance {sp : Sp} {W : WX} {t : TA} {σ : L2.St} {H : Hp} {Q : VK} : Step (tCallW sp W t σ H Q) (t σ H fun vs H1 => sp vs H1 Q (fun cls d H' => W cls d σ H')) := ⟨fun h => h⟩
/-! d.get(k, v) -/
def kG2 (ty tx : TE) (σ : L2.St) (Q : VK) (x : V) (H1 : Hp) : Prop := ∃ a, x = .ref a ∧ IsD H1 a ∧ ty σ H1 fun y H2 => tx σ H2 fun z H3 => ∃ o, DGet H3 a y o ∧ Q (o.getD z) H3
def kG3 (a : Addr) (Q : VK) (y z : V) (H3 : Hp) : Prop := ∃ o, DGet H3 a y o ∧ Q (o.getD z) H3
section
variable {K : PySem.W.Frag} {H : Hp} {Q : VK} {a p : Addr} {kvs : List (Key × V)} {td ty tx : TE} {σ : L2.St} {s : Str} {z : V} {o : Option V}
instance : Step (tDGet2 td ty tx σ H Q) (td σ H (kG2 ty tx σ Q)) := ⟨fun h => h⟩
theorem g_kg2 (h : H a = some (.dK kvs)) (q : ty σ H fun y H2 => tx σ H2 (kG3 a Q y)) : kG2 ty tx σ Q (.ref a) H := ⟨a, rfl, .inl ⟨kvs, .inl h⟩, q⟩
theorem g_kg3 (h : H a = some (.dK kvs)) (e : valV kvs (.inr s) = o) (q : Q (o.getD z) H) : kG3 a Q (.str s) z H := by
  subst e
  exact ⟨_, DGet.k (k := .inr s) h, q⟩
theorem g_kgS {v : V} (h : H a = some (.dK kvs)) (e : valV kvs (.inr s) = some v) (q : Q v H) : kG3 a Q (.str s) z H := g_kg3 h e q
theorem g_kgN (h : H a = some (.dK kvs)) (e : valV kvs (.inr s) = none) (q : Q z H) : kG3 a Q (.str s) z H := g_kg3 h e q
end
/-! t.index(x) of texts -/
def rIdx (K : PySem.W.Frag) : V → List V → Hp → VK → Prop := fun x xs H Q => ∃ p, ∃ ys : List Str, ∃ z j, x = .ref p ∧ xs = [.str z] ∧ SqT K H p (ys.map V.str) ∧ ys[j]? = some z ∧ (∀ m, m < j → ys[m]? ≠ some z) ∧ Q (.int (j : Nat)) H
theorem mt_idxK {X : Cx} {K : PySem.W.Frag} (hK : X.K = K := by rfl) : MtR X "tuple.index" (rIdx K) := hK ▸ mt_tup_index
section
variable {X : Cx} {K : PySem.W.Frag} {o e : Expr} {es : List Expr} {to : TE} {t : TA} {name : Str} {apos cpos : Pos} {T id : String} {r : V → List V → Hp → VK → Prop}
theorem pe_bmK (pa : PlainAttrs T) (slot : Slot T name id) (hty : typeOf (.builtin id) = pure (.type "method_descriptor")) (hm : MtR X id r) (ho : PE X o to) (ha : PA X (e :: es) t)
    (hbase : attributeBase o name X.env (eval o X.env) = eval o X.env := by rfl)
    (hfew : ((backTo cpos (starEach (e :: es) X.env)).all (fun x => !x.1) && (backToKw cpos (keywordEach [] X.env)).all (fun x => x.1.isSome)
      && decide ((e :: es).length + ([] : List Keyword).length + (if ([] : List Keyword).isEmpty then 0 else 1) < 30)) = true := by rfl)
    (hline : (apos.endLine == cpos.line) = true := by rfl) (hs : starEach (e :: es) X.env = (false, eval e X.env) :: starEach es X.env := by rfl) (hplain : (backTo cpos (starEach es X.env)).any (·.1) = false := by rfl) (hK : X.K = K := by rfl) :
    PE X (.Call (.Attribute o name apos) (e :: es) [] cpos) (tBM K T r to t) := hK ▸ pe_bm pa slot hty hm ho ha hbase hfew hline hs hplain
theorem g_idx {H : Hp} {Q : VK} {p : Addr} {ys : List Str} {z : Str} {j : Nat} (h : SqT K H p (ys.map V.str)) (e : ys[j]? = some z) (n : ∀ m, m < j → ys[m]? ≠ some z) (q : Q (.int (j : Nat)) H) : rIdx K (.ref p) [.str z] H Q := ⟨p, ys, z, j, rfl, rfl, h, e, n, q⟩
end
/-- a written tuple without a dict of its own -/
def tdB (K : PySem.W.Frag) (a : Addr) : Bool := match K.lookup a with
  | some ⟨.type c, d, _, _⟩ => decide (c = "tuple") && d.isNone
  | _ => false
theorem tdB_ok {K : PySem.W.Frag} {a : Addr} (h : tdB K a = true) : ∃ o, K.lookup a = some o ∧ o.cls = .type "tuple" ∧ o.dict = none := by
  unfold tdB at h
  split at h
  · rename_i c d x y e
    obtain ⟨h1, h2⟩ := Bool.and_eq_true_iff.mp h
    refine ⟨_, e, by rw [of_decide_eq_true h1], ?_⟩
    cases d with
    | none => rfl
    | some _ => cases h2
  · cases h
theorem g_kidx {K : PySem.W.Frag} {H : Hp} {Q : VK} {p : Addr} {σ : L2.St} {t : TA} (td : ∃ o, K.lookup p = some o ∧ o.cls = .type "tuple" ∧ o.dict = none) (q : t σ H fun xs H2 => rIdx K (.ref p) xs H2 Q) : kBM K "tuple" (rIdx K) t σ Q (.ref p) H :=
  ⟨.inr (.inl ⟨rfl, td⟩), q⟩
end AF
/-! steps of clauses -/
namespace AF
open PySem PySem.Spec PyProof.Rows L2
theorem hu100 {k : Nat} {A : Around} (r : Room k A) : A.units + 100 < cLine := by have := r.un; omega
section
variable {K : PySem.W.Frag} {i : Nat} {Wout : WX} {D : Ends} {c cls : Value} {ts : Addr → Value → Option Addr → TS} {r : List (Value × (Addr → Value → Option Addr → TS))} {d : Option Addr} {σ : L2.St} {H : Hp}
theorem g_wyes (e : PySem.W.exmOne K cls c = some true) (q : ∀ a, H a = none → ts a cls d (offI i D) (σ.set i (some (.ref a))) H) : wNam K i Wout D ((c, ts) :: r) cls d σ H := ⟨true, e, fun _ => q, fun z => nomatch z⟩
theorem g_wno (e : PySem.W.exmOne K cls c = some false) (q : wNam K i Wout D r cls d σ H) : wNam K i Wout D ((c, ts) :: r) cls d σ H := ⟨false, e, fun z => (nomatch z), fun _ => q⟩
end
theorem g_off {i : Nat} {nx : L2.St → Hp → Prop} {rt : VK} {bk ct : L2.St → Hp → Prop} {t : TS} {σ : L2.St} {H : Hp} (q : t ⟨fun σ H => nx (σ.set i none) H, rt, fun σ H => bk (σ.set i none) H, fun σ H => ct (σ.set i none) H⟩ σ H) : t (offI i ⟨nx, rt, bk, ct⟩) σ H := q
instance {σ σ' σ'' : L2.St} {i j : Nat} {v : V} [h : SetI σ i v σ'] [h2 : ClrI σ' j σ''] : ClrI (σ.set i (some v)) j σ'' := ⟨by rw [h.eq]; exact h2.eq⟩
theorem clr_goE {σ σ' : L2.St} {i : Nat} {H : Hp} {Q : VK} {A : TE} [h : ClrI σ i σ'] (q : A σ' H Q) : A (σ.set i none) H Q := by rw [h.eq]; exact q
theorem clr_go {σ σ' : L2.St} {i : Nat} {H : Hp} {A : L2.St → Hp → Prop} [h : ClrI σ i σ'] (q : A σ' H) : A (σ.set i none) H := by rw [h.eq]; exact q
/-- a caught error's class holds what we ask of it -/
def exB (K : PySem.W.Frag) (C : Addr) : Bool := He.eqO (PySem.W.findIn K (.ref C) "__getattribute__") (some (some (.builtin "BaseException.__getattribute__"))) && (He.eqO (PySem.W.findIn K (.ref C) "__getattr__") (some none) && (decide (PySem.W.subIn K (.ref C) (.type "BaseException") = some true) &&
  (PySem.W.hasDictIn K C && (He.eqO (PySem.W.findIn K (.ref C) "__class__") (some (some (.builtin "object.__class__"))) && (He.eqO (PySem.W.specialIn K (.builtin "object.__class__") "__get__") (some (some (.builtin "getset_descriptor.__get__"))) &&
  (decide (PySem.W.takesIn K (.builtin "object.__class__") = some true) && decide (PySem.W.mroIn K C (.type "object") = some true)))))))
theorem exB_ok {K : PySem.W.Frag} {C : Addr} (h : exB K C = true) : ExcC K C := by
  obtain ⟨h1, h⟩ := He.ba h
  obtain ⟨h2, h⟩ := He.ba h
  obtain ⟨h3, h⟩ := He.ba h
  obtain ⟨h4, h⟩ := He.ba h
  obtain ⟨h5, h⟩ := He.ba h
  obtain ⟨h6, h⟩ := He.ba h
  obtain ⟨h7, h8⟩ := He.ba h
  exact ⟨He.eqO_ok h1, He.eqO_ok h2, of_decide_eq_true h3, h4, He.eqO_ok h5, He.eqO_ok h6, of_decide_eq_true h7, of_decide_eq_true h8⟩
theorem xf_of {K : PySem.W.Frag} {C : Addr} (h : ExcC K C) : XfC K C := ⟨h.hg, h.hk, h.hs, h.hd⟩
theorem pe_xfD {X : Cx} {a C : Addr} {oe : Obj} {cls : Value} {d : Option Addr} {pn : List (Addr × Obj)} {e : Expr} {te : TE} {pos : Pos} {n : Str} (T : ExcC X.K C) (hno : PySem.W.findIn X.K (.ref C) n = some none) (hz : Zc cls d oe) (hf : ∃ vs, oe.data = .fields vs)
    (he : PE (X.suite a ((a, oe) :: pn)) e te) (hb : attributeBase e n X.env (eval e X.env) = eval e X.env := by rfl) : PE (X.suite a ((a, oe) :: pn)) (.Attribute e n pos) (tXf a cls d C n te) := pe_xf (xf_of T) hno hz hf he hb
end AF
/-! two names out of a pair; lists put together; is None -/
namespace AF
open PySem PySem.Spec PyProof.Rows L2
section
variable {K : PySem.W.Frag} {σ σ1 σ2 : L2.St} {H H0 : Hp} {M : Addr → Prop} {l : List Ent} {te : TE} {i j : Nat} {nx : L2.St → Hp → Prop} {rt : VK} {bk ct : L2.St → Hp → Prop} {a b : Addr} {u v : V} {Q : VK}
def kUnp (K : PySem.W.Frag) (i j : Nat) (σ : L2.St) (nx : L2.St → Hp → Prop) (x : V) (H : Hp) : Prop := gTup K 2 (gCons (gName i) (gCons (gName j) gNil)) x σ H nx
instance (priority := 900) : Step (tAsg te (gTup K 2 (gCons (gName i) (gCons (gName j) gNil))) ⟨nx, rt, bk, ct⟩ σ H) (te σ H (kUnp K i j σ nx)) := ⟨fun h => h⟩
theorem g_unp [h1 : SetI σ i u σ1] [h2 : SetI σ1 j v σ2] (h : H a = some (.tup [u, v])) (k : nx σ2 H) : kUnp K i j σ nx (.ref a) H := by
  refine ⟨a, [u, v], rfl, SqT.of h, rfl, u, [v], rfl, v, [], rfl, rfl, ?_⟩
  show nx ((σ.set i (some u)).set j (some v)) H
  rw [h1.eq, h2.eq]
  exact k
theorem g_catl {xs ys : List V} (S : Sh H0 M H l) (hx : On l a (.lst xs)) (hy : On l b (.lst ys)) (hn : Nat.ble (xs.length + ys.length) 1000 = true) (q : ∀ p H', H p = none → Sh H0 M H' ((p, .lst (xs ++ ys), true) :: l) → Q (.ref p) H') : rCat (.ref a) (.ref b) H Q :=
  ⟨a, b, xs, ys, rfl, rfl, S.has_ hx, S.has_ hy, line_of hn, fun p hp => q p _ hp (S.new hp)⟩
def rNotN : R2 := fun x y H Q => y = V.non ∧ Q (.bl (!decide (x = V.non))) H
theorem g_nn {x : V} {r : Bool} (e : (!decide (x = V.non)) = r) (q : Q (.bl r) H) : (fun x y H Q => y = V.non ∧ Q (V.bl (!decide (x = V.non))) H : R2) x .non H Q := ⟨rfl, by
  show Q (.bl (!decide (x = V.non))) H
  rw [e]; exact q⟩
end
theorem Sh.cut {H0 H : Hp} {M : Addr → Prop} {l l' : List Ent} (S : Sh H0 M H l) (s : List.Sublist l' l) : Sh H0 M H l' := ⟨S.fr, fun e he => S.has e (s.subset he), S.ap.sublist (s.map tag), fun e he => S.mu e (s.subset he)⟩
theorem g_inl {K : PySem.W.Frag} {H : Hp} {Q : VK} {p : Addr} {xs : List V} {x : V} {r : Bool} (h : H p = some (.lst xs)) (fx : flatV x = true) (fs : xs.all flatV = true) (e : inV x xs = r) (q : Q (.bl r) H) : rIn K false x (.ref p) H Q := ⟨p, xs, rfl, .inl (SqL.of h), fx, fs, by rw [e]; exact q⟩
/-- six statements, then the rest -/
theorem g_cut6 {t1 t2 t3 t4 t5 t6 u : TS} {nx : L2.St → Hp → Prop} {rt : VK} {bk ct : L2.St → Hp → Prop} {σ : L2.St} {H : Hp} (P : L2.St → Hp → Prop)
    (a : ∀ nx' : L2.St → Hp → Prop, (∀ σ H, P σ H → nx' σ H) → tSeq t1 (tSeq t2 (tSeq t3 (tSeq t4 (tSeq t5 t6)))) ⟨nx', rt, bk, ct⟩ σ H) (b : ∀ σ H, P σ H → u ⟨nx, rt, bk, ct⟩ σ H) :
    tSeq t1 (tSeq t2 (tSeq t3 (tSeq t4 (tSeq t5 (tSeq t6 u))))) ⟨nx, rt, bk, ct⟩ σ H := a (fun σ H => u ⟨nx, rt, bk, ct⟩ σ H) b
theorem shaped2 {z : Str} {b : Bool} (h : PyData.canLay0 (.str z) = true) : SeqAt.shaped (.list [.str z, .bool b]) = true := by
  have e1 : PyData.canLay0 (.list [.str z, .bool b]) = true := by
    show (PyData.canLay0 (.str z) && (true && true)) = true
    rw [h]; rfl
  show (PyData.canLay0 _ && decide (PyData.depth (.list [.str z, .bool b]) ≤ 64)) = true
  rw [e1, Bool.true_and]
  refine decide_eq_true ?_
  simp [PyData.depth, PyData.depthAll]
end AF
/-! lambdas without parameters as values: made, kept, handed to a def that calls them in a try *-/
namespace AF
open PySem PySem.Spec PyProof.Rows L2 LamX
/-- a lambda at f, its code at c' -/
def LamO (q : Str) (cells : List (Str × Addr)) (params : Arguments) (body : Expr) (scope : Scope) (c' f : Addr) : HO :=
  .ext fun h => ∃ pm ctv, h.get? f = some (PySem.W.kla_obj "<lambda>" (q ++ "<lambda>") params body scope (cloFrom cells scope.names []) pm c' ctv)
theorem lamO_ok {P : Program} {w : World} {H : Hp} {h : Heap} {q : Str} {cells : List (Str × Addr)} {params : Arguments} {body : Expr} {scope : Scope} {c' f : Addr} {pm ctv : Value}
    (e : h.get? f = some (PySem.W.kla_obj "<lambda>" (q ++ "<lambda>") params body scope (cloFrom cells scope.names []) pm c' ctv)) : ObjOk P w H h f (LamO q cells params body scope c' f) :=
  ⟨⟨pm, ctv, e⟩, ⟨_, e⟩, fun _ _ ⟨a, b, z⟩ k => ⟨a, b, k _ z⟩⟩
section
variable {X : Cx} {pins : List (Addr × Obj)} {σ : L2.St} {H : Hp} {s : Shared}
/-- what stands behind the making of a lambda -/
structure LamMade (T : List (Addr × Str)) (q : Str) (cells : List (Str × Addr)) (params : Arguments) (body : Expr) (scope : Scope) (H H1 : Hp) (f c' : Addr) : Prop where
  ext : ExtN H H1
  tabs : Tabs T H1
  lam : H1 f = some (LamO q cells params body scope c' f)
  code : H1 c' = some (CodeO c' (q ++ "<lambda>"))
  new : H f = none
theorem lamO_ne {q : Str} {cells : List (Str × Addr)} {params : Arguments} {body : Expr} {scope : Scope} {c' f : Addr} (ps : Array Value) : LamO q cells params body scope c' f ≠ .tbl ps := fun z => by
  unfold LamO at z; cases z
theorem lam_hold {T : List (Addr × Str)} {c P : Addr} {params : Arguments} {body : Expr} {scope : Scope} {pos : Pos} {E : Value → Shared → Prop} {Q : Value → Shared → Prop} (I : Inv X pins σ H s) (TB : TabB X.base X.mg c P) (hcode : X.env.code = .ref c)
    (hm : (P, X.env.qual ++ "<lambda>") ∈ T) (hu : ∀ p ∈ T, p.1 = P → p.2 = X.env.qual ++ "<lambda>") (hT : Tabs T H) (hdef : defaultsOf params X.env = ([], [])) (hfree : ∀ y ∈ scope.names, y.2 = .free → ∃ c, X.env.cells.lookup y.1 = some c)
    (k : ∀ f c' H1 s', Inv X pins σ H1 s' → LamMade T X.env.qual X.env.cells params body scope H H1 f c' → Q (.ref f) s') : wpAny (model X.prog X.w) X.A (eval (.Lambda params body scope pos) X.env) Q E s := by
  obtain ⟨ps, tp, tr, tc⟩ := hT _ hm
  refine PySem.W.kla_eval hdef ?_
  have objP : s.heap.get? P = some { cls := .none, data := .fields ps } := I.hok P _ tp
  have blt : s.heap.BuiltinsAt X.mg P := TB.bm.keeps I.bk
  cases among : codeAmong pos ps.toList with
  | some cv =>
    -- the table has its code
    obtain ⟨c', rfl, hco⟩ := tc pos cv among
    refine PySem.W.kla_makeFunctionHit (mg := X.mg) (c := c) (P := P) (ps := ps) (closure_ok hfree) I.ok.glob (I.mod.glob.keeps I.bk) hcode (TB.code.keeps I.bk) objP tr among blt ?_
    intro ctv h' tk grow size
    have I1 : Inv X pins σ H { s with heap := h', toks := tk } := I.kept grow
    have fr : H h'.objs.size = none := I1.hok.fresh (Nat.le_refl _)
    have here : ∀ o, H h'.objs.size ≠ some o := fun o z => by rw [fr] at z; cases z
    refine k h'.objs.size c' _ _ (I1.laid (t' := tk) (a := h'.objs.size) (o := LamO X.env.qual X.env.cells params body scope c' h'.objs.size) (fun b o e => Heap.get?_push_of_some _ e) (Nat.le_refl _) (lamO_ok (Heap.get?_push_size _ rfl))) ?_
    have ex : ∀ b o, H b = some o → upd H h'.objs.size (LamO X.env.qual X.env.cells params body scope c' h'.objs.size) b = some o := fun b o e => by rw [upd_ne (ne_of_none e fr)]; exact e
    exact ⟨fun b o e _ => ex b o e, hT.ext ex, upd_same, ex _ _ hco, fr⟩
  | none =>
    refine PySem.W.kla_makeFunction (mg := X.mg) (c := c) (P := P) (ps := ps) (closure_ok hfree) I.ok.glob (I.mod.glob.keeps I.bk) hcode (TB.code.keeps I.bk) objP tr among TB.gP blt ?_
    rintro c' ctv h' tk grow low high ⟨c2, oc, us, t, e2, e3, e4, e5⟩ now
    cases e2
    have nC : H c' = none := I.hok.fresh low
    have nF : H h'.objs.size = none := I.hok.fresh (Nat.le_trans low (Nat.le_of_lt high))
    have ncP : c' ≠ P := fun z => by rw [z, tp] at nC; cases nC
    have nfP : h'.objs.size ≠ P := fun z => by rw [z, tp] at nF; cases nF
    have nfc : h'.objs.size ≠ c' := Nat.ne_of_gt high
    have I1 := inv_table (t' := tk) (q := X.env.qual ++ "<lambda>") (more := #[rawInt pos.line, rawInt pos.col, .ref c']) (h' := h') I tp (fun b o n e => grow b o n e) now low ⟨oc, us, t, e3, e4, e5⟩
    have fr : upd (upd H P (.tbl (ps ++ #[rawInt pos.line, rawInt pos.col, .ref c']))) c' (CodeO c' (X.env.qual ++ "<lambda>")) h'.objs.size = none := by rw [upd_ne nfc, upd_ne nfP]; exact nF
    refine k h'.objs.size c' _ _ (I1.laid (t' := tk) (a := h'.objs.size) (o := LamO X.env.qual X.env.cells params body scope c' h'.objs.size) (fun b o e => Heap.get?_push_of_some _ e) (Nat.le_refl _) (lamO_ok (Heap.get?_push_size _ rfl))) ?_
    have ex : ExtN H (upd (upd (upd H P (.tbl (ps ++ #[rawInt pos.line, rawInt pos.col, .ref c']))) c' (CodeO c' (X.env.qual ++ "<lambda>"))) h'.objs.size (LamO X.env.qual X.env.cells params body scope c' h'.objs.size)) := fun b o e n => by
      have nb : b ≠ P := fun z => by rw [z, tp] at e; exact n ps (Option.some.inj e).symm
      rw [upd_ne (ne_of_none e nF), upd_ne (ne_of_none e nC), upd_ne nb]; exact e
    refine ⟨ex, fun p hp => ?_, upd_same, by rw [upd_ne nfc.symm, upd_same], nF⟩
    by_cases hb : p.1 = P
    · rw [hu p hp hb, hb]
      have el : (ps ++ #[rawInt pos.line, rawInt pos.col, .ref c']).toList = ps.toList ++ [rawInt pos.line, rawInt pos.col, .ref c'] := by simp
      refine ⟨_, by rw [upd_ne nfP.symm, upd_ne ncP.symm, upd_same], by rw [el]; exact PySem.TriplesOk_snoc _ _ _ _ tr, fun p' cv hcv => ?_⟩
      rw [el] at hcv
      rcases among_app _ tr hcv with z | z
      · obtain ⟨c0, y1, y2⟩ := tc p' cv z
        exact ⟨c0, y1, ex _ _ y2 codeO_ne⟩
      · exact ⟨c', z, by rw [upd_ne nfc.symm, upd_same]⟩
    · obtain ⟨qs, y1, y2, y3⟩ := hT p hp
      refine ⟨qs, by rw [upd_ne (ne_of_none y1 nF), upd_ne (ne_of_none y1 nC), upd_ne hb]; exact y1, y2, fun p' cv hcv => ?_⟩
      obtain ⟨c0, z1, z2⟩ := y3 p' cv hcv
      exact ⟨c0, z1, ex _ _ z2 codeO_ne⟩
end
/-- lambda: body -/
def tLamV (T : List (Addr × Str)) (q : Str) (cells : List (Str × Addr)) (params : Arguments) (body : Expr) (scope : Scope) : TE := fun _ H Q => Tabs T H ∧ ∀ f c' H1, LamMade T q cells params body scope H H1 f c' → Q (.ref f) H1
theorem pe_lamV {X : Cx} {T : List (Addr × Str)} {c P : Addr} {params : Arguments} {body : Expr} {scope : Scope} {pos : Pos} (TB : TabB X.base X.mg c P) (hcode : X.env.code = .ref c) (ok : ∀ {pins σ H s}, Inv X pins σ H s → X.Ok) (L : LamS X.env.scope scope)
    (hm : (P, X.env.qual ++ "<lambda>") ∈ T) (hu : ∀ p ∈ T, p.1 = P → p.2 = X.env.qual ++ "<lambda>") (hdef : defaultsOf params X.env = ([], [])) : PE X (.Lambda params body scope pos) (tLamV T X.env.qual X.env.cells params body scope) := by
  constructor
  intro pins s σ H Q I h
  exact lam_hold I TB hcode hm hu h.1 hdef (L.has (ok I)) fun f c' H1 s' I1 md => ⟨.ref f, H1, I1, rfl, h.2 f c' H1 md⟩
/-! the lambda called by the def that got it; what it raises is wished for at that def's slots -/
theorem pe_actW {X : Cx} {pins : List (Addr × Obj)} {σ : L2.St} {H : Hp} {s : Shared} {CXg : CXT} {Eg : XK} {Ng : List Str} {qg : Str} {sg : Scope} {g f c' : Addr} {cdg : Value} {params : Arguments} {body : Expr} {scope : Scope} {k i : Nat} {a : Str} {pn : List (Addr × Obj)} {xe : Value → Shared → Prop} {W : WX} {t : XK → TE} {p1 p2 : Pos}
    (I : Inv X pins σ H s) (L : LamS X.env.scope scope)
    (hbind : ∀ (q : Str) (cl : List (Str × Addr)) (pm cv ctv : Value), bindArgs (PySem.W.kla_fn "<lambda>" q params body scope cl pm cv ctv) ⟨[], []⟩ = pure [])
    (tk : Takes ((cxOf CXg X.prog X.w X.K X.mg X.base Ng qg sg g cdg X.A X.stack s H Eg).tr pn xe) W) (hr : Room (k + 1) (X.A.deeper (envOfC qg sg s.heap.objs.size g cdg)))
    (hbody : ∀ (A : Around) (outer : List Env) (s : Shared) (H : Hp) (E : XK), Room k (A.deeper (lamEnv X scope s.heap.objs.size f c')) → PE (lamCx X A outer s H E scope f c') body (t E))
    (hN : Ng[i]? = some a) (hv : Vis sg a) (hd : (a == ("__debug__" : Str)) = false := by decide) (hcd : (a == ("__classdict__" : Str)) = false := by decide) :
    PE ((cxOf CXg X.prog X.w X.K X.mg X.base Ng qg sg g cdg X.A X.stack s H Eg).tr pn xe) (.Call (.Name a p1) [] [] p2)
      (fun σZ HZ Q => σZ[i]? = some (some (.ref f)) ∧ HZ f = some (LamO X.env.qual X.env.cells params body scope c' f) ∧ HZ c' = some (CodeO c' (X.env.qual ++ "<lambda>")) ∧ t (fun cls d H' => W cls d σZ H') σ HZ Q) := by
  constructor
  rintro pinsZ sZ σZ HZ Q IZ ⟨hs, hf, hc, ht⟩
  refine wpAny_Call_Name_kw (thn ((pe_var (pos := p1) (i := i) hN hv hd hcd).run pinsZ sZ σZ HZ (fun v H1 => v = .ref f ∧ H1 = HZ) IZ ⟨.ref f, hs, rfl, rfl⟩) ?_)
  rintro u s1 ⟨v, H1, I1, r1, rfl, rfl⟩
  cases (show u = Value.ref f from r1)
  obtain ⟨pm, ctv, of1⟩ := (I1.hok f _ hf).1
  obtain ⟨oc, us, tt, oc1, oc2, oc3⟩ := (I1.hok c' _ hc).1
  refine PySem.W.callWith_F0 ⟨_, _, _, _, of1⟩ ?_
  refine wpAny_call (codeAny_mono (R := CR (L2.CX X.prog X.w) (envOfC qg sg s.heap.objs.size g cdg :: X.stack) X.prog X.w H1 s1 Q (fun cls d H' => W cls d σZ H')) ?_ ?_)
  · refine PySem.W.kla_callFunE hr.depth of1 rfl L.co L.gen rfl ⟨c', oc, us, tt, rfl, oc1, oc2, oc3⟩ ?_
    rw [show (([] : List Value) ++ []) = [] from rfl, hbind]
    refine wpAny_pure (wpAny_newFunctionEnv (fun y hy => (L.own y hy).2) (fun y hy => (nomatch hy)) (fun h₁ hns hsb => ⟨I1.nolimit.fresh _ hsb, ?_⟩) L.kind)
    have kp : ∀ b o, s1.heap.get? b = some o → h₁.get? b = some o := fun b o e => hsb.extBut b o (Nat.ne_of_lt (Heap.lt_size e)) (Heap.get?_push_of_some _ e)
    have J : Inv (lamCx X (X.A.deeper (envOfC qg sg s.heap.objs.size g cdg)) (envOfC qg sg s.heap.objs.size g cdg :: X.stack) s1 H1 (fun cls d H' => W cls d σZ H') scope f c') [] σ H1 { s1 with heap := h₁, toks := s1.toks + ([] : List (Str × Value)).length } :=
      lam_start2 I L I1.env0 hr.hd (show Un (frs X.stack) [] H H1 s.heap s1.heap from I1.base) hns kp
    refine PySem.W.kla_codeExpr (wpAny_mono ((hbody _ _ s1 H1 _ (hr.deeper _)).run [] _ _ H1 Q J ht) ?_ fun _ _ z => z)
    rintro v s' ⟨w', H', J', rv, q⟩
    exact ⟨w', H', J'.os, J'.bare, J'.base, J'.hok, rv, q⟩
  · rintro (er | fl) s' z
    · exact tk er s' (XE.of_call I1 (fun _ _ _ h => h) z)
    · cases fl <;> first | exact I1.after z | exact False.elim z
/-! a def that calls what it got in a try: TT tells what it makes of it -/
/-- one lambda's text, and its reading in the maker's slots -/
structure LamD where
  params : Arguments
  body : Expr
  scope : Scope
  t : XK → TE
def ActOk (X : Cx) (Ng : List Str) (x : Str) (sg : Scope) (g : Addr) (cdg : Value) (bg : List Stmt) (a : Str) (TT : (XK → Hp → VK → Prop) → Hp → VK → Prop) : Prop :=
  ∀ (f : Addr) (s : Shared) (H : Hp) (Q : VK) (Pf : Hp → Prop) (tl : XK → Hp → VK → Prop), (∀ H H', Ch [] H H' → Pf H → Pf H') →
    (∀ (W : WX) (pn : List (Addr × Obj)) (xe : Value → Shared → Prop) (p1 p2 : Pos), Takes ((cxOf C8.CX0 X.prog X.w X.K X.mg X.base Ng x sg g cdg X.A X.stack s H C8.E0).tr pn xe) W →
      PE ((cxOf C8.CX0 X.prog X.w X.K X.mg X.base Ng x sg g cdg X.A X.stack s H C8.E0).tr pn xe) (.Call (.Name a p1) [] [] p2) (fun σZ HZ Q => σZ[0]? = some (some (.ref f)) ∧ Pf HZ ∧ tl (fun cls d H' => W cls d σZ H') HZ Q)) →
    Pf H → TT tl H Q → ∃ t, PSs (cxOf C8.CX0 X.prog X.w X.K X.mg X.base Ng x sg g cdg X.A X.stack s H C8.E0) bg t ∧ t { nx := fun _ H' => Q .non H', rt := Q } (L2.start Ng [.ref f]) H
def tAct (q : Str) (cells : List (Str × Addr)) (ds : List LamD) (TT : (XK → Hp → VK → Prop) → Hp → VK → Prop) (ta : TE) : TE := fun σ H Q => ta σ H fun v H1 =>
  ∃ (f c' : Addr) (d : LamD), d ∈ ds ∧ v = .ref f ∧ H1 f = some (LamO q cells d.params d.body d.scope c' f) ∧ H1 c' = some (CodeO c' (q ++ "<lambda>")) ∧ TT (fun E H' Q' => d.t E σ H' Q') H1 Q
theorem pe_actG {X : Cx} {TT : (XK → Hp → VK → Prop) → Hp → VK → Prop} {x a : Str} {g : Addr} {k : Nat} {pg : Arguments} {bg : List Stmt} {sg : Scope} {dV kV doc pm cdv ct oc : Value} {an od : Option Addr} {osl : Array (Option Value)} {Ng : List Str} {ds : List LamD} {e : Expr} {ta : TE} {p pos : Pos}
    (hg : Gl X x) (hm : X.mg x = some (.ref g)) (hk : PySem.W.keepIn X.K (.ref g) = true) (lk : X.K.lookup g = some ⟨oc, od, .func (PySem.W.fnOf x x pg bg sg dV kV doc pm an cdv ct), osl⟩) (hcg : PySem.W.codeIn X.K cdv x = true)
    (hb : L2.Binds X.K (PySem.W.fnOf x x pg bg sg dV kV doc pm an cdv ct) [a] []) (Sg : FnScope Ng [a] sg) (hNg : Ng[0]? = some a) (hva : Vis sg a) (hG : ActOk X Ng x sg g cdv bg a TT) (hr : Room (k + 2) X.A)
    (hds : ∀ d ∈ ds, LamS X.env.scope d.scope ∧ (∀ (q : Str) (cl : List (Str × Addr)) (pm cv ctv : Value), bindArgs (PySem.W.kla_fn "<lambda>" q d.params d.body d.scope cl pm cv ctv) ⟨[], []⟩ = pure []) ∧
      ∀ (A : Around) (outer : List Env) (s : Shared) (H : Hp) (E : XK) (f c' : Addr), Room k (A.deeper (lamEnv X d.scope s.heap.objs.size f c')) → PE (lamCx X A outer s H E d.scope f c') d.body (d.t E))
    (he : PE X e ta) (hst : starEach [e] X.env = (false, eval e X.env) :: starEach [] X.env := by rfl) (hpl : (backTo pos (starEach [] X.env)).any (·.1) = false := by rfl)
    (hdb : (x == ("__debug__" : Str)) = false := by decide) (hd : (a == ("__debug__" : Str)) = false := by decide) (hcd : (a == ("__classdict__" : Str)) = false := by decide) : PE X (.Call (.Name x p) [e] [] pos) (tAct X.env.qual X.env.cells ds TT ta) := by
  constructor
  intro pins s σ H Q I h
  refine wpAny_Call_Name_kw (ld_glob I hg hm ?_ hdb)
  refine PySem.W.callWith_K (h₀ := X.base) I.ok.mod.kin hk ?_ hst hpl
  rw [hst]
  show wpAny _ _ (spliced ((false, eval e X.env) :: backTo pos (starEach [] X.env))) _ _ s
  refine Calls.spliced_cons (thn (he.run pins s σ H _ I h) ?_)
  rintro u s1 ⟨v, H1, I1, r1, f, c', d, hd1, rfl, lf, lc, tt⟩
  cases (show u = Value.ref f from r1)
  obtain ⟨L, bn, bd⟩ := hds d hd1
  refine Calls.spliced_nil ⟨I1.kIn, ?_⟩
  refine wpAny_call (codeAny_mono (R := CR C8.CX0 X.stack X.prog X.w H1 s1 Q C8.E0) ?_ ?_)
  · refine run_ofS (N := Ng) (ps := [a]) (us := [.ref f]) (vs := [.ref f]) lk hcg Sg hr I1.env0 (hb s1 [.ref f] I1.kIn rfl) (.cons rfl .nil) rfl fun hr' => ?_
    refine hG f s1 H1 Q (fun HZ => HZ f = some (LamO X.env.qual X.env.cells d.params d.body d.scope c' f) ∧ HZ c' = some (CodeO c' (X.env.qual ++ "<lambda>"))) (fun E H' Q' => d.t E σ H' Q') (fun _ _ ch z => ⟨ch _ _ z.1 List.not_mem_nil, ch _ _ z.2 List.not_mem_nil⟩) ?_ ⟨lf, lc⟩ tt
    intro W pn xe p1 p2 tk
    have z := pe_actW (i := 0) (t := d.t) (p1 := p1) (p2 := p2) I1 L bn tk hr' (fun A outer s H E hr2 => bd A outer s H E f c' hr2) hNg hva hd hcd
    exact ⟨fun pins s σ H Q I ⟨h1, ⟨h2, h3⟩, h4⟩ => z.run pins s σ H Q I ⟨h1, h2, h3, h4⟩⟩
  · rintro (er | fl) s' z
    · exact (show False from z).elim
    · cases fl <;> first | exact I1.after z | exact False.elim z
end AF
/-! lambdas beside what stands; the table of the law's code looked at *-/
namespace AF
open PySem PySem.Spec PyProof.Rows L2 LamX
/-- what may be changed at all -/
def softO : HO → Bool
  | .lst _ => true
  | .tup _ => true
  | .dK _ => true
  | .ins _ _ _ => true
  | .own _ => true
  | .xd _ => true
  | _ => false
def tblO : HO → Bool
  | .tbl _ => true
  | _ => false
def Soft (H : Hp) (M : Addr → Prop) : Prop := ∀ b o, H b = some o → M b → softO o = true
theorem soft0 {H : Hp} : Soft H (fun _ => False) := fun _ _ _ h => h.elim
def Mu (l : List Ent) (b : Addr) : Prop := ∃ e ∈ l, e.2.2 = true ∧ e.1 = b
def softL (l : List Ent) : Bool := l.all fun e => (!e.2.2 || softO e.2.1) && !tblO e.2.1
section
variable {H0 H H1 : Hp} {M : Addr → Prop} {l : List Ent} {T : List (Addr × Str)} {K : PySem.W.Frag} {a : Addr} {xs : List V}
theorem Tabs.along (t : Tabs T H0) (S : Sh H0 M H l) (sf : Soft H0 M) : Tabs T H := fun p hp => by
  obtain ⟨ps, h1, h2, h3⟩ := t p hp
  refine ⟨ps, S.fr _ _ h1 fun z => ?_, h2, fun pos cv hc => ?_⟩
  · have := sf _ _ h1 z; cases this
  · obtain ⟨c, e1, e2⟩ := h3 pos cv hc
    refine ⟨c, e1, S.fr _ _ e2 fun z => ?_⟩
    have := sf _ _ e2 z
    unfold CodeO at this; cases this
theorem SqF.along (h : SqF K H0 a xs) (S : Sh H0 M H l) (sf : Soft H0 M) : SqF K H a xs := by
  rcases h with ⟨o, e⟩ | h
  · exact .inl ⟨o, S.fr _ _ e fun z => by have := sf _ _ e z; cases this⟩
  · exact .inr h
theorem SqF.extN (h : SqF K H a xs) (e : ExtN H H1) : SqF K H1 a xs := by
  rcases h with ⟨o, z⟩ | h
  · exact .inl ⟨o, e _ _ z fun ps y => by cases y⟩
  · exact .inr h
/-- begun anew -/
theorem Sh.again (S : Sh H0 M H l) : Sh H (Mu l) H l := ⟨fun _ _ h _ => h, S.has, S.ap, fun e he hm => .inl ⟨e, he, hm, rfl⟩⟩
theorem soft_again (S : Sh H0 M H l) (hl : softL l = true) : Soft H (Mu l) := fun b o hb ⟨e, he, hm, hb'⟩ => by
  have h1 := List.all_eq_true.mp hl e he
  have h2 := S.has e he
  rw [hb', hb] at h2
  cases h2
  rw [hm] at h1
  cases q : softO e.2.1 with
  | true => rfl
  | false => rw [q] at h1; cases h1
variable {q : Str} {cells : List (Str × Addr)} {params : Arguments} {body : Expr} {scope : Scope} {f c' : Addr}
theorem Sh.lam (S : Sh H0 M H l) (hl : softL l = true) (md : LamMade T q cells params body scope H H1 f c') : Sh H1 (Mu l) H1 ((f, LamO q cells params body scope c' f, false) :: (c', CodeO c' (q ++ "<lambda>"), false) :: l) := by
  have has : ∀ e, e ∈ l → H1 e.1 = some e.2.1 := fun e he => md.ext _ _ (S.has e he) fun ps z => by
    have h1 := List.all_eq_true.mp hl e he
    rw [z] at h1
    cases h2 : e.2.2 <;> rw [h2] at h1 <;> cases h1
  have soft : ∀ e, e ∈ l → e.2.2 = true → softO e.2.1 = true := fun e he hm => by
    have h1 := (Bool.and_eq_true_iff.mp (List.all_eq_true.mp hl e he)).1
    rw [hm] at h1
    cases q : softO e.2.1 with
    | true => rfl
    | false => rw [q] at h1; cases h1
  have S1 : Sh H1 (Mu l) H1 l := ⟨fun _ _ h _ => h, has, S.ap, fun e he hm => .inl ⟨e, he, hm, rfl⟩⟩
  have S2 : Sh H1 (Mu l) H1 ((c', CodeO c' (q ++ "<lambda>"), false) :: l) := S1.know md.code fun e he hm z => by
    have h1 := has e he
    rw [← z, md.code] at h1
    have h2 := soft e he hm
    rw [← Option.some.inj h1] at h2
    unfold CodeO at h2; cases h2
  refine S2.know md.lam fun e he hm z => ?_
  rcases List.mem_cons.mp he with h | h
  · rw [h] at hm; cases hm
  · have h1 := S.has e h
    rw [← z, md.new] at h1; cases h1
theorem Soft.lam (S : Sh H0 M H l) (hl : softL l = true) (md : LamMade T q cells params body scope H H1 f c') : Soft H1 (Mu l) := fun b o hb ⟨e, he, hm, hb'⟩ => by
  have S1 := S.lam hl md
  have h2 := S1.has e (List.mem_cons_of_mem _ (List.mem_cons_of_mem _ he))
  rw [hb', hb] at h2
  cases h2
  have h1 := (Bool.and_eq_true_iff.mp (List.all_eq_true.mp hl e he)).1
  rw [hm] at h1
  cases q : softO e.2.1 with
  | true => rfl
  | false => rw [q] at h1; cases h1
/-- lambda: body, all told anew behind it -/
theorem g_lam {σ : L2.St} {Q : VK} (S : Sh H0 M H l) (sf : Soft H0 M) (t : Tabs T H0) (hF : SqF K H0 a xs) (hl : softL l = true)
    (k : ∀ f c' H1, Sh H1 (Mu l) H1 ((f, LamO q cells params body scope c' f, false) :: (c', CodeO c' (q ++ "<lambda>"), false) :: l) → Soft H1 (Mu l) → Tabs T H1 → SqF K H1 a xs → Q (.ref f) H1) : tLamV T q cells params body scope σ H Q :=
  ⟨Tabs.along t S sf, fun f c' H1 md => k f c' H1 (S.lam hl md) (Soft.lam S hl md) md.tabs ((hF.along S sf).extN md.ext)⟩
end
def kAct (q : Str) (cells : List (Str × Addr)) (ds : List LamD) (TT : (XK → Hp → VK → Prop) → Hp → VK → Prop) (σ : L2.St) (Q : VK) (v : V) (H1 : Hp) : Prop :=
  ∃ (f c' : Addr) (d : LamD), d ∈ ds ∧ v = .ref f ∧ H1 f = some (LamO q cells d.params d.body d.scope c' f) ∧ H1 c' = some (CodeO c' (q ++ "<lambda>")) ∧ TT (fun E H' Q' => d.t E σ H' Q') H1 Q
instance {q : Str} {cells : List (Str × Addr)} {ds : List LamD} {TT : (XK → Hp → VK → Prop) → Hp → VK → Prop} {ta : TE} {σ : L2.St} {H : Hp} {Q : VK} : Step (tAct q cells ds TT ta σ H Q) (ta σ H (kAct q cells ds TT σ Q)) := ⟨fun h => h⟩
/-! the head, its table looked at -/
def lawC (K : PySem.W.Frag) (x : Str) : Addr := match cdOf K (He.ga K x) with
  | .ref c => c
  | _ => 0
def lawP (K : PySem.W.Frag) (x : Str) : Addr := match K.lookup (lawC K x) with
  | some ⟨_, _, .fields vs, _⟩ => (match (vs[11]? : Option Value) with
    | some (.ref p) => p
    | _ => 0)
  | _ => 0
def isTab : Option Obj → Bool
  | some ⟨.none, .none, .fields ⟨[]⟩, ⟨[]⟩⟩ => true
  | _ => false
theorem isTab_ok {o : Option Obj} (h : isTab o = true) : o = some oTab := by
  unfold isTab at h
  split at h
  · rfl
  · cases h
def lawB (K : PySem.W.Frag) (x : Str) : Bool := PySem.W.codeHdIn K (lawC K x) (lawP K x) && ((K.lookup (lawP K x)).isNone && (match cdOf K (He.ga K x) with | .ref _ => true | _ => false))
section
open He
open PySem.W (Frag OpenRow)
def lookTR (n : Nat) (fs : Frag → List Bool) (ds : List DA) (ts : List Tab) (g : Addr → Option Obj) : SeenT := lookT fs ds ts (frG g (PySem.cStatics :: asP g n [mainGlobals] [mainGlobals]))
def hookR (n : Nat) (fs : Frag → List Bool) (ds : List DA) (ts : List Tab) : PySem.W.Hook where
  α := SeenT
  obs := fun s => lookTR n fs ds ts s.heap.get?
  val := fun w => lookTW ds ts w
  says := fun w h => ∃ K : Frag, K.In h ∧ TellsT fs ds ts w K
  of := fun _ _ e => ⟨_, frG_in, e⟩
  keeps := fun _ _ _ ⟨K, hK, c⟩ k => ⟨K, Frag.In.keeps hK k, c⟩
theorem lookTR_eq {n : Nat} {fs : Frag → List Bool} {ds : List DA} {ts : List Tab} {g : Addr → Option Obj} {s : Shared} (h : ∀ a, g a = s.heap.get? a) : lookTR n fs ds ts g = (hookR n fs ds ts).obs s := by
  have e : g = s.heap.get? := funext h
  rw [e]
  rfl
/-- .. and the law's table is empty -/
def lookTL (n : Nat) (x : Str) (fs : Frag → List Bool) (ds : List DA) (ts : List Tab) (g : Addr → Option Obj) : SeenT × Bool :=
  (lookTR n fs ds ts g, (fun K : Frag => lawB K x && isTab (g (lawP K x))) (frG g (PySem.cStatics :: asP g n [mainGlobals] [mainGlobals])))
def hookL (n : Nat) (x : Str) (fs : Frag → List Bool) (ds : List DA) (ts : List Tab) : PySem.W.Hook where
  α := SeenT × Bool
  obs := fun s => lookTL n x fs ds ts s.heap.get?
  val := fun w => (lookTW ds ts w, true)
  says := fun w h => ∃ K : Frag, K.In h ∧ TellsT fs ds ts w K ∧ lawB K x = true ∧ h.get? (lawP K x) = some oTab
  of := fun _ _ e => by
    obtain ⟨e1, e2⟩ := Prod.mk.inj e
    obtain ⟨e3, e4⟩ := Bool.and_eq_true_iff.mp e2
    exact ⟨_, frG_in, e1, e3, isTab_ok e4⟩
  keeps := fun _ _ _ ⟨K, hK, c, b, t⟩ k => ⟨K, Frag.In.keeps hK k, c, b, k _ _ t⟩
theorem lookTL_eq {n : Nat} {x : Str} {fs : Frag → List Bool} {ds : List DA} {ts : List Tab} {g : Addr → Option Obj} {s : Shared} (h : ∀ a, g a = s.heap.get? a) : lookTL n x fs ds ts g = (hookL n x fs ds ts).obs s := by
  have e : g = s.heap.get? := funext h
  rw [e]
  rfl
end
theorem lawB_ok {K : PySem.W.Frag} {x : Str} (h : lawB K x = true) : PySem.W.codeHdIn K (lawC K x) (lawP K x) = true ∧ K.lookup (lawP K x) = none ∧ cdOf K (He.ga K x) = .ref (lawC K x) := by
  obtain ⟨h1, h⟩ := Bool.and_eq_true_iff.mp h
  obtain ⟨h2, h3⟩ := Bool.and_eq_true_iff.mp h
  refine ⟨h1, Option.isNone_iff_eq_none.mp h2, ?_⟩
  unfold lawC
  split at h3
  · rename_i c e
    rw [e]
  · cases h3
end AF
/-! calls in lambdas that raise: a def that keeps the error's value by repr -/
namespace AF
open PySem PySem.Spec PyProof.Rows L2 LamX
/-- what a call is to raise: one of the classes, with its value -/
def Wish (cs : List (Addr × Str)) (Q : VK) : XK := fun cls d H' => ∃ (C dd : Addr) (v : V) (z kw : Str), cls = .ref C ∧ d = some dd ∧ H' dd = some (.xd [("value", v)]) ∧ RepO H' v z ∧ (C, kw) ∈ cs ∧
  ∀ p H'', H' p = none → Ch [] H' H'' → H'' p = some (.lst [.str kw, .str z, .bl true]) → Q (.ref p) H''
def TTr (cs : List (Addr × Str)) : (XK → Hp → VK → Prop) → Hp → VK → Prop := fun tl H Q => ∀ p H1 (E : XK) (Q' : VK), H p = none → Ch [] H H1 → H1 p = some (.lst []) → (∀ cls d H', Wish cs Q cls d H' → E cls d H') → tl E H1 Q'
/-- all told goes along with a longer heap, tables aside -/
theorem Sh.extN {H0 H H1 : Hp} {M : Addr → Prop} {l : List Ent} (S : Sh H0 M H l) (hl : softL l = true) (e : ExtN H H1) : Sh H1 (Mu l) H1 l := by
  refine ⟨fun _ _ h _ => h, fun e1 he => e _ _ (S.has e1 he) fun ps z => ?_, S.ap, fun e1 he hm => .inl ⟨e1, he, hm, rfl⟩⟩
  have h1 := (Bool.and_eq_true_iff.mp (List.all_eq_true.mp hl e1 he)).2
  rw [z] at h1
  cases h1
theorem soft_extN {H0 H H1 : Hp} {M : Addr → Prop} {l : List Ent} (S : Sh H0 M H l) (hl : softL l = true) (e : ExtN H H1) : Soft H1 (Mu l) := soft_again (S.extN hl e) hl
end AF
/-! a def of the program's called with a lambda *-/
namespace AF
open PySem PySem.Spec PyProof.Rows L2 LamX
theorem pe_act1 {X : Cx} {TT : (XK → Hp → VK → Prop) → Hp → VK → Prop} {x a : Str} {g : Addr} {k : Nat} {pg : Arguments} {bg : List Stmt} {sg : Scope} {fd : FuncData} {Ng : List Str} {params : Arguments} {body : Expr} {scope : Scope} {t : XK → TE} {ta : TE} {p pos lpos : Pos}
    (F : FunD X.K x x pg bg sg [] [] g fd) (b : Binds X.K fd [a] []) (Sg : FnScope Ng [a] sg) (hNg : Ng[0]? = some a) (hva : Vis sg a) (hG : ∀ cdg, ActOk X Ng x sg g cdg bg a TT) (hr : Room (k + 2) X.A) (hg : Gl X x) (hm : X.mg x = some (.ref g))
    (L : LamS X.env.scope scope) (hbind : ∀ (q : Str) (cl : List (Str × Addr)) (pm cv ctv : Value), bindArgs (PySem.W.kla_fn "<lambda>" q params body scope cl pm cv ctv) ⟨[], []⟩ = pure [])
    (hbody : ∀ (A : Around) (outer : List Env) (s : Shared) (H : Hp) (E : XK) (f c' : Addr), Room k (A.deeper (lamEnv X scope s.heap.objs.size f c')) → PE (lamCx X A outer s H E scope f c') body (t E))
    (he : PE X (.Lambda params body scope lpos) ta)
    (hdb : (x == ("__debug__" : Str)) = false := by decide) (hd : (a == ("__debug__" : Str)) = false := by decide) (hcd : (a == ("__classdict__" : Str)) = false := by decide) :
    PE X (.Call (.Name x p) [.Lambda params body scope lpos] [] pos) (tAct X.env.qual X.env.cells [⟨params, body, scope, t⟩] TT ta) := by
  obtain ⟨oc, od, dV, kV, doc, pm, an, cdv, ct, osl, rfl, lk, hcd', _, _⟩ := F.ex
  refine pe_actG hg hm F.kp lk hcd' b Sg hNg hva (hG cdv) hr (fun d hd' => ?_) he (by rfl) (by rfl) hdb hd hcd
  rw [List.mem_singleton] at hd'
  subst hd'
  exact ⟨L, hbind, fun A outer s H E f c' hr2 => hbody A outer s H E f c' hr2⟩
/-- the tables of the defs that make lambdas -/
def lamT (K : PySem.W.Frag) (xs : List Str) : List (Addr × Str) := xs.map fun x => (lawP K x, (x ++ ".<locals>.") ++ "<lambda>")
def lamB (K : PySem.W.Frag) (xs : List Str) : Bool := decide ((xs.map (lawP K)).Nodup)
theorem lamT_u {K : PySem.W.Frag} : ∀ {xs : List Str}, (xs.map (lawP K)).Nodup → ∀ {x : Str}, x ∈ xs → ∀ p ∈ lamT K xs, p.1 = lawP K x → p.2 = (x ++ ".<locals>.") ++ "<lambda>"
  | [], _, _, h, _, _, _ => nomatch h
  | y :: ys, nd, x, h, p, hp, e => by
    obtain ⟨n1, n2⟩ := List.nodup_cons.mp nd
    rcases List.mem_cons.mp hp with hp | hp
    · rw [hp] at e ⊢
      have e1 : lawP K y = lawP K x := e
      rcases List.mem_cons.mp h with h | h
      · rw [h]
      · exact absurd (e1 ▸ List.mem_map_of_mem h) n1
    · rcases List.mem_cons.mp h with h | h
      · obtain ⟨z, hz, rfl⟩ := List.mem_map.mp hp
        have e1 : lawP K z = lawP K x := e
        rw [h] at e1
        exact absurd (e1 ▸ List.mem_map_of_mem hz) n1
      · exact lamT_u n2 h p hp e
theorem lamT_m {K : PySem.W.Frag} {xs : List Str} {x : Str} (h : x ∈ xs) : (lawP K x, (x ++ ".<locals>.") ++ "<lambda>") ∈ lamT K xs := List.mem_map_of_mem (f := fun x => (lawP K x, (x ++ ".<locals>.") ++ "<lambda>")) h
/-- all that one lambda's making wants, in one -/
structure Mkr (K : PySem.W.Frag) (mg : Str → Option Value) (base : Heap) (xs : List Str) (x : Str) : Prop where
  tb : TabB base mg (lawC K x) (lawP K x)
  cd : cdOf K (He.ga K x) = .ref (lawC K x)
  mem : x ∈ xs
  nd : (xs.map (lawP K)).Nodup
theorem pe_lam1 {X : Cx} {xs : List Str} {x : Str} {params : Arguments} {body : Expr} {scope : Scope} {pos : Pos} {cdv : Value} (D : Mkr X.K X.mg X.base xs x) (hc : cdOf X.K (He.ga X.K x) = cdv) (he : X.env.code = cdv) (hq : X.env.qual = x ++ ".<locals>.") (ok : ∀ {pins σ H s}, Inv X pins σ H s → X.Ok) (L : LamS X.env.scope scope)
    (hdef : defaultsOf params X.env = ([], [])) : PE X (.Lambda params body scope pos) (tLamV (lamT X.K xs) X.env.qual X.env.cells params body scope) :=
  pe_lamV D.tb (he.trans (hc.symm.trans D.cd)) ok L (by rw [hq]; exact lamT_m D.mem) (by rw [hq]; exact lamT_u D.nd D.mem) hdef
mutual
theorem Pv.extN {H H' : Hp} (c : ExtN H H') : ∀ (d : PyData) (v : V), Pv H v d → Pv H' v d
  | .none, _, h => by cases h; exact .non
  | .bool b, _, h => by cases h; exact .bl b
  | .int i, _, h => by cases h; exact .int i
  | .str x, _, h => by cases h; exact .str x
  | .list ds, _, h => by cases h with | lst e r => exact .lst (c _ _ e fun _ z => nomatch z) (PvAll.extN c ds _ r)
  | .tuple ds, _, h => by cases h with | tup e r => exact .tup (c _ _ e fun _ z => nomatch z) (PvAll.extN c ds _ r)
  | .dict ps, _, h => by cases h with
    | d0 e => exact .d0 (c _ _ e fun _ z => nomatch z)
    | d1 e => exact .d1 (c _ _ e fun _ z => nomatch z)
    | d2 e q => exact .d2 (c _ _ e fun _ z => nomatch z) q
theorem PvAll.extN {H H' : Hp} (c : ExtN H H') : ∀ (ds : List PyData) (vs : List V), PvAll H vs ds → PvAll H' vs ds
  | [], _, h => by cases h; exact .nil
  | d :: ds, _, h => by cases h with | cons k r => exact .cons (Pv.extN c d _ k) (PvAll.extN c ds _ r)
end
theorem RepO.extN {H H' : Hp} {v : V} {z : Str} (h : RepO H v z) (c : ExtN H H') : RepO H' v z := by
  cases h with
  | non => exact .non
  | bl b => exact .bl b
  | int h => exact .int h
  | str h => exact .str h
  | box h s => exact .box (h.extN c) s
theorem Ch.toN {H H' : Hp} (c : Ch [] H H') : ExtN H H' := ExtN.of fun b o e => c b o e List.not_mem_nil
theorem Tabs.ch {T : List (Addr × Str)} {H H' : Hp} (t : Tabs T H) (c : Ch [] H H') : Tabs T H' := t.ext fun b o e => c b o e List.not_mem_nil
/-- what stood is not what is new -/
theorem ExtN.old {H H' : Hp} {p : Addr} (c : ExtN H H') (n : H' p = none) : ∀ o, H p = some o → ∃ ps, o = .tbl ps := fun o e => by
  cases o with
  | tbl ps => exact ⟨ps, rfl⟩
  | _ =>
    have := c _ _ e fun ps z => nomatch z
    rw [n] at this; cases this
theorem ne_tblO {l : List Ent} (hl : softL l = true) {e : Ent} (he : e ∈ l) (ps : Array Value) : e.2.1 ≠ .tbl ps := fun z => by
  have h1 := (Bool.and_eq_true_iff.mp (List.all_eq_true.mp hl e he)).2
  rw [z] at h1
  cases h1
/-- .. and what a def has made beside tables -/
theorem Sh.extK {H0 H H1 : Hp} {M : Addr → Prop} {l : List Ent} {p : Addr} {o : HO} (S : Sh H0 M H l) (hl : softL l = true) (e : ExtN H H1) (old : ∀ o, H p = some o → ∃ ps, o = .tbl ps) (h : H1 p = some o) : Sh H1 (Mu l) H1 ((p, o, false) :: l) :=
  (S.extN hl e).know h fun x hx _ z => by
    obtain ⟨ps, y⟩ := old _ (by rw [z]; exact S.has x hx)
    exact ne_tblO hl hx ps y
/-- a def of the program's called with a lambda that raises -/
theorem g_actr {H0 H : Hp} {M : Addr → Prop} {l : List Ent} {T : List (Addr × Str)} {q : Str} {cells : List (Str × Addr)} {params : Arguments} {body : Expr} {scope : Scope} {t : XK → TE} {cs : List (Addr × Str)} {σ : L2.St} {Q : VK} (S : Sh H0 M H l) (sf : Soft H0 M) (tb : Tabs T H0) (hl : softL l = true)
    (k : ∀ (H1 H2 : Hp) (E : XK) (Q' : VK), ExtN H H1 → Soft H1 (Mu l) → Tabs T H1 → ExtN H H2 → Sh H1 (Mu l) H2 l → (∀ (C dd : Addr) (v : V) (z kw : Str) (H3 : Hp), Ch [] H2 H3 → H3 dd = some (.xd [("value", v)]) → RepO H3 v z → (C, kw) ∈ cs →
      (∀ p H4, ExtN H H4 → Sh H1 (Mu l) H4 ((p, .lst [.str kw, .str z, .bl true], true) :: l) → Q (.ref p) H4) → E (.ref C) (some dd) H3) → t E σ H2 Q') :
    tLamV T q cells params body scope σ H (kAct q cells [⟨params, body, scope, t⟩] (TTr cs) σ Q) := by
  refine ⟨Tabs.along tb S sf, fun lf lc H1 md => ⟨lf, lc, _, List.mem_singleton_self _, rfl, md.lam, md.code, ?_⟩⟩
  intro p H2 E Q' hn ch hp hw
  have S1 := S.extN hl md.ext
  refine k H1 H2 E Q' md.ext (soft_again S1 hl) md.tabs (md.ext.trans (Ch.toN ch)) (S1.ch0 ch) fun C dd v z kw H3 c3 hx hz hm fin => ?_
  refine hw _ _ _ ⟨C, dd, v, z, kw, rfl, rfl, hx, hz, hm, fun p4 H4 hn4 c4 hp4 => ?_⟩
  exact fin p4 H4 ((md.ext.trans (Ch.toN ch)).trans ((Ch.toN c3).trans (Ch.toN c4))) ((((S1.ch0 ch).ch0 c3)).add c4 hn4 hp4)
/-- two ways to one value -/
theorem g_ivB {b : Bool} {ta tb : VK → Prop} {v : V} {H : Hp} {Q : VK} (h1 : b = true → ∀ Q : VK, Q v H → ta Q) (h2 : b = false → ∀ Q : VK, Q v H → tb Q) (q : Q v H) : if b = true then ta Q else tb Q := by
  cases b with
  | true => rw [if_pos rfl]; exact h1 rfl Q q
  | false => rw [if_neg (by decide)]; exact h2 rfl Q q
/-- two ways that come together -/
theorem g_meetB {b : Bool} {t u : TS} {nx : L2.St → Hp → Prop} {rt : VK} {bk ct : L2.St → Hp → Prop} {σ : L2.St} {H : Hp} (W : L2.St → Hp → Prop) (h1 : b = true → ∀ nx' : L2.St → Hp → Prop, (∀ σ H, W σ H → nx' σ H) → t ⟨nx', rt, bk, ct⟩ σ H) (h2 : b = false → ∀ nx' : L2.St → Hp → Prop, (∀ σ H, W σ H → nx' σ H) → u ⟨nx', rt, bk, ct⟩ σ H)
    (q : ∀ σ H, W σ H → nx σ H) : if b = true then t ⟨nx, rt, bk, ct⟩ σ H else u ⟨nx, rt, bk, ct⟩ σ H := by
  cases b with
  | true => rw [if_pos rfl]; exact h1 rfl nx q
  | false => rw [if_neg (by decide)]; exact h2 rfl nx q
/-- two statements, then the rest -/
theorem g_cut2 {t1 t2 u : TS} {nx : L2.St → Hp → Prop} {rt : VK} {bk ct : L2.St → Hp → Prop} {σ : L2.St} {H : Hp} (P : L2.St → Hp → Prop) (a : ∀ nx' : L2.St → Hp → Prop, (∀ σ H, P σ H → nx' σ H) → tSeq t1 t2 ⟨nx', rt, bk, ct⟩ σ H) (b : ∀ σ H, P σ H → u ⟨nx, rt, bk, ct⟩ σ H) :
    tSeq t1 (tSeq t2 u) ⟨nx, rt, bk, ct⟩ σ H := a (fun σ H => u ⟨nx, rt, bk, ct⟩ σ H) b
/-! the head, several tables looked at -/
def lamC (K : PySem.W.Frag) (xs : List Str) : List (Addr × Addr) := xs.map fun x => (lawC K x, lawP K x)
theorem tabs0 {K : PySem.W.Frag} {xs : List Str} {H : Hp} (h : ∀ p ∈ lamC K xs, H p.2 = some (.tbl #[])) : Tabs (lamT K xs) H := fun p hp => by
  obtain ⟨x, hx, rfl⟩ := List.mem_map.mp hp
  exact TabS.nil (h (lawC K x, lawP K x) (List.mem_map_of_mem (f := fun x => (lawC K x, lawP K x)) hx))
theorem mkr_of {K : PySem.W.Frag} {mg : Str → Option Value} {base : Heap} {xs : List Str} {x : Str} (hT : ∀ p ∈ lamC K xs, TabB base mg p.1 p.2) (hb : ∀ x ∈ xs, lawB K x = true) (nd : (xs.map (lawP K)).Nodup) (hx : x ∈ xs) : Mkr K mg base xs x :=
  ⟨hT (lawC K x, lawP K x) (List.mem_map_of_mem (f := fun x => (lawC K x, lawP K x)) hx), (lawB_ok (hb x hx)).2.2, hx, nd⟩
theorem lamC_C {K : PySem.W.Frag} {h : Heap} {xs : List Str} (KX : K.In h) (hb : ∀ x ∈ xs, lawB K x = true) : ∀ p ∈ lamC K xs, PySem.W.CodeHd h p.1 p.2 := fun p hp => by
  obtain ⟨x, hx, rfl⟩ := List.mem_map.mp hp
  exact PySem.W.codeHd_of_K KX (lawB_ok (hb x hx)).1
theorem lamC_n {K : PySem.W.Frag} {xs : List Str} (hb : ∀ x ∈ xs, lawB K x = true) : ∀ p ∈ lamC K xs, K.lookup p.2 = none := fun p hp => by
  obtain ⟨x, hx, rfl⟩ := List.mem_map.mp hp
  exact (lawB_ok (hb x hx)).2.1
section
open He
open PySem.W (Frag OpenRow)
def lookTM (n : Nat) (xs : List Str) (fs : Frag → List Bool) (ds : List DA) (ts : List Tab) (g : Addr → Option Obj) : SeenT × Bool :=
  (lookTR n fs ds ts g, (fun K : Frag => xs.all fun x => lawB K x && isTab (g (lawP K x))) (frG g (PySem.cStatics :: asP g n [mainGlobals] [mainGlobals])))
def hookM (n : Nat) (xs : List Str) (fs : Frag → List Bool) (ds : List DA) (ts : List Tab) : PySem.W.Hook where
  α := SeenT × Bool
  obs := fun s => lookTM n xs fs ds ts s.heap.get?
  val := fun w => (lookTW ds ts w, true)
  says := fun w h => ∃ K : Frag, K.In h ∧ TellsT fs ds ts w K ∧ ∀ x ∈ xs, lawB K x = true ∧ h.get? (lawP K x) = some oTab
  of := fun _ _ e => by
    obtain ⟨e1, e2⟩ := Prod.mk.inj e
    exact ⟨_, frG_in, e1, fun x hx => by
      obtain ⟨e3, e4⟩ := Bool.and_eq_true_iff.mp (List.all_eq_true.mp e2 x hx)
      exact ⟨e3, isTab_ok e4⟩⟩
  keeps := fun _ _ _ ⟨K, hK, c, b⟩ k => ⟨K, Frag.In.keeps hK k, c, fun x hx => ⟨(b x hx).1, k _ _ (b x hx).2⟩⟩
theorem lookTM_eq {n : Nat} {xs : List Str} {fs : Frag → List Bool} {ds : List DA} {ts : List Tab} {g : Addr → Option Obj} {s : Shared} (h : ∀ a, g a = s.heap.get? a) : lookTM n xs fs ds ts g = (hookM n xs fs ds ts).obs s := by
  have e : g = s.heap.get? := funext h
  rw [e]
  rfl
end
end AF
namespace K1
open PySem PySem.Spec PyProof.Rows L2 AF
open C8 (pe_gc)
def top (i : Nat) : Stmt := PySem.Challenge.pw_agedfiles_k14_rows_bent.main.body.getD i (.Pass ⟨0, 0, 0, 0⟩)
abbrev s_NoWay___init__ : Stmt := inClass (top 2) 0
theorem c_NoWay___init__ : FnScope ["self", "kind", "index"] ["self", "kind", "index"] (defScope s_NoWay___init__) := ⟨rfl, rfl, rfl, by decide +kernel, rfl, by decide +kernel, by decide +kernel⟩
abbrev s_is_whole : Stmt := top 4
theorem c_is_whole : FnScope ["value"] ["value"] (defScope s_is_whole) := ⟨rfl, rfl, rfl, by decide +kernel, rfl, by decide +kernel, by decide +kernel⟩
abbrev s_is_time : Stmt := top 5
theorem c_is_time : FnScope ["value"] ["value"] (defScope s_is_time) := ⟨rfl, rfl, rfl, by decide +kernel, rfl, by decide +kernel, by decide +kernel⟩
abbrev s_is_moment : Stmt := top 6
theorem c_is_moment : FnScope ["value"] ["value"] (defScope s_is_moment) := ⟨rfl, rfl, rfl, by decide +kernel, rfl, by decide +kernel, by decide +kernel⟩
abbrev s_is_list : Stmt := top 7
theorem c_is_list : FnScope ["value"] ["value"] (defScope s_is_list) := ⟨rfl, rfl, rfl, by decide +kernel, rfl, by decide +kernel, by decide +kernel⟩
abbrev s_is_deed : Stmt := top 11
theorem c_is_deed : FnScope ["value", "word"] ["value"] (defScope s_is_deed) := ⟨rfl, rfl, rfl, by decide +kernel, rfl, by decide +kernel, by decide +kernel⟩
abbrev s_makes : Stmt := top 12
theorem c_makes : FnScope ["value"] ["value"] (defScope s_makes) := ⟨rfl, rfl, rfl, by decide +kernel, rfl, by decide +kernel, by decide +kernel⟩
abbrev s_Way___init__ : Stmt := inClass (top 15) 0
theorem c_Way___init__ : FnScope ["self", "nodes", "arrows", "arrow"] ["self", "nodes", "arrows"] (defScope s_Way___init__) := ⟨rfl, rfl, rfl, by decide +kernel, rfl, by decide +kernel, by decide +kernel⟩
abbrev s_Way_nodes : Stmt := inClass (top 15) 1
theorem c_Way_nodes : FnScope ["self"] ["self"] (defScope s_Way_nodes) := ⟨rfl, rfl, rfl, by decide +kernel, rfl, by decide +kernel, by decide +kernel⟩
abbrev s_Way_arrows : Stmt := inClass (top 15) 2
theorem c_Way_arrows : FnScope ["self"] ["self"] (defScope s_Way_arrows) := ⟨rfl, rfl, rfl, by decide +kernel, rfl, by decide +kernel, by decide +kernel⟩
abbrev s_Way_arrow : Stmt := inClass (top 15) 3
theorem c_Way_arrow : FnScope ["self", "start", "goal", "link"] ["self", "start", "goal"] (defScope s_Way_arrow) := ⟨rfl, rfl, rfl, by decide +kernel, rfl, by decide +kernel, by decide +kernel⟩
abbrev s_Way___getitem__ : Stmt := inClass (top 15) 4
theorem c_Way___getitem__ : FnScope ["self", "at"] ["self", "at"] (defScope s_Way___getitem__) := ⟨rfl, rfl, rfl, by decide +kernel, rfl, by decide +kernel, by decide +kernel⟩
abbrev s_Way___iter__ : Stmt := inClass (top 15) 5
theorem c_Way___iter__ : FnScope ["self"] ["self"] (defScope s_Way___iter__) := ⟨rfl, rfl, rfl, by decide +kernel, rfl, by decide +kernel, by decide +kernel⟩
abbrev s_Way___len__ : Stmt := inClass (top 15) 6
theorem c_Way___len__ : FnScope ["self"] ["self"] (defScope s_Way___len__) := ⟨rfl, rfl, rfl, by decide +kernel, rfl, by decide +kernel, by decide +kernel⟩
abbrev s_Way___eq__ : Stmt := inClass (top 15) 7
theorem c_Way___eq__ : FnScope ["self", "other"] ["self", "other"] (defScope s_Way___eq__) := ⟨rfl, rfl, rfl, by decide +kernel, rfl, by decide +kernel, by decide +kernel⟩
abbrev s_is_place : Stmt := top 16
theorem c_is_place : FnScope ["value", "things"] ["value", "things"] (defScope s_is_place) := ⟨rfl, rfl, rfl, by decide +kernel, rfl, by decide +kernel, by decide +kernel⟩
abbrev s_is_arrow : Stmt := top 17
theorem c_is_arrow : FnScope ["value", "nodes", "start", "goal", "least", "most", "word"] ["value", "nodes"] (defScope s_is_arrow) := ⟨rfl, rfl, rfl, by decide +kernel, rfl, by decide +kernel, by decide +kernel⟩
abbrev s_with_word : Stmt := top 18
theorem c_with_word : FnScope ["arrow"] ["arrow"] (defScope s_with_word) := ⟨rfl, rfl, rfl, by decide +kernel, rfl, by decide +kernel, by decide +kernel⟩
abbrev s_check_nodes : Stmt := top 19
theorem c_check_nodes : FnScope ["nodes", "index", "node"] ["nodes"] (defScope s_check_nodes) := ⟨rfl, rfl, rfl, by decide +kernel, rfl, by decide +kernel, by decide +kernel⟩
abbrev s_check_arrows : Stmt := top 20
theorem c_check_arrows : FnScope ["arrows", "nodes", "ends", "index", "arrow"] ["arrows", "nodes"] (defScope s_check_arrows) := ⟨rfl, rfl, rfl, by decide +kernel, rfl, by decide +kernel, by decide +kernel⟩
abbrev s_check_anew : Stmt := top 21
theorem c_check_anew : FnScope ["links", "link", "used", "index"] ["links"] (defScope s_check_anew) := ⟨rfl, rfl, rfl, by decide +kernel, rfl, by decide +kernel, by decide +kernel⟩
abbrev s_check_reached : Stmt := top 22
theorem c_check_reached : FnScope ["deeds", "links", "node", "reached", "waiting", "link", "deed"] ["deeds", "links"] (defScope s_check_reached) := ⟨rfl, rfl, rfl, by decide +kernel, rfl, by decide +kernel, by decide +kernel⟩
abbrev s_check_way : Stmt := top 24
theorem c_check_way : FnScope ["value"] ["value"] (defScope s_check_way) := ⟨rfl, rfl, rfl, by decide +kernel, rfl, by decide +kernel, by decide +kernel⟩
abbrev s_is_row : Stmt := top 26
theorem c_is_row : FnScope ["way", "value", "one", "other", "step"] ["way", "value"] (defScope s_is_row) := ⟨rfl, rfl, rfl, by decide +kernel, rfl, by decide +kernel, by decide +kernel⟩
abbrev s_is_step : Stmt := top 27
theorem c_is_step : FnScope ["way", "value"] ["way", "value"] (defScope s_is_step) := ⟨rfl, rfl, rfl, by decide +kernel, rfl, by decide +kernel, by decide +kernel⟩
abbrev s_follows : Stmt := top 28
theorem c_follows : FnScope ["way", "one", "other", "link", "time"] ["way", "one", "other"] (defScope s_follows) := ⟨rfl, rfl, rfl, by decide +kernel, rfl, by decide +kernel, by decide +kernel⟩
abbrev s_law_source : Stmt := top 30
theorem c_law_source : FnScope ["script", "turn", "cell", "number", "seed"] ["script", "turn"] (defScope s_law_source) := ⟨rfl, rfl, rfl, by decide +kernel, rfl, by decide +kernel, by decide +kernel⟩
abbrev s_law_draw : Stmt := top 31
theorem c_law_draw : FnScope ["source", "amount", "digit", "found"] ["source", "amount"] (defScope s_law_draw) := ⟨rfl, rfl, rfl, by decide +kernel, rfl, by decide +kernel, by decide +kernel⟩
abbrev s_law_pick : Stmt := top 32
theorem c_law_pick : FnScope ["source", "items"] ["source", "items"] (defScope s_law_pick) := ⟨rfl, rfl, rfl, by decide +kernel, rfl, by decide +kernel, by decide +kernel⟩
abbrev s_law_maker : Stmt := top 33
theorem c_law_maker : FnScope ["source", "back"] ["source", "back"] (defScope s_law_maker) := ⟨rfl, rfl, rfl, by decide +kernel, rfl, by decide +kernel, by decide +kernel⟩
abbrev s_law_user : Stmt := top 34
theorem c_law_user : FnScope ["source", "back"] ["source", "back"] (defScope s_law_user) := ⟨rfl, rfl, rfl, by decide +kernel, rfl, by decide +kernel, by decide +kernel⟩
abbrev s_law_arrow : Stmt := top 35
theorem c_law_arrow : FnScope ["source", "start", "goal", "longest", "ends", "least", "most"] ["source", "start", "goal", "longest", "ends"] (defScope s_law_arrow) := ⟨rfl, rfl, rfl, by decide +kernel, rfl, by decide +kernel, by decide +kernel⟩
abbrev s_law_plan : Stmt := top 36
theorem c_law_plan : FnScope ["source", "many", "longest", "back", "ends", "nodes", "k", "arrows", "goal", "turn", "arrow", "onward", "other"] ["source", "many", "longest", "back", "ends"] (defScope s_law_plan) := ⟨rfl, rfl, rfl, by decide +kernel, rfl, by decide +kernel, by decide +kernel⟩
abbrev s_law_row : Stmt := top 37
theorem c_law_row : FnScope ["source", "plan", "most", "start", "longest", "nodes", "arrows", "some", "found", "turn", "arrow", "onward", "top", "time", "node"] ["source", "plan", "most", "start", "longest"] (defScope s_law_row) := ⟨rfl, rfl, rfl, by decide +kernel, rfl, by decide +kernel, by decide +kernel⟩
abbrev s_law_right : Stmt := top 38
theorem c_law_right : FnScope ["plan", "row", "nodes", "arrows", "at", "time", "some", "arrow"] ["plan", "row"] (defScope s_law_right) := ⟨rfl, rfl, rfl, by decide +kernel, rfl, by decide +kernel, by decide +kernel⟩
abbrev s_law_bent : Stmt := top 39
theorem c_law_bent : FnScope ["source", "plan", "row", "at", "node", "moment", "kind", "one", "time"] ["source", "plan", "row"] (defScope s_law_bent) := ⟨rfl, rfl, rfl, by decide +kernel, rfl, by decide +kernel, by decide +kernel⟩
abbrev s_law : Stmt := top 40
theorem c_law : FnScope ["script", "turn", "source", "longest", "plan", "way", "row", "k", "bent", "odd", "value"] ["script"] (defScope s_law) := ⟨rfl, rfl, rfl, by decide +kernel, rfl, by decide +kernel, by decide +kernel⟩
end K1
namespace KW
open PySem PySem.Spec PyProof.Rows L2 AF
open K1
set_option maxHeartbeats 0
/-! the end -/
section
open He
def lenB (K : PySem.W.Frag) (C f : Addr) : Bool := eqO (PySem.W.findIn K (.ref C) "__len__") (some (some (.ref f))) && PySem.W.isFn K (.ref f)
def hdefs : List DA := [⟨fun K => ga K "law", "law", "law", s_law, [], []⟩,
  ⟨fun K => ga K "_law_source", "_law_source", "_law_source", s_law_source, [], []⟩,
  ⟨fun K => ga K "_law_draw", "_law_draw", "_law_draw", s_law_draw, [], []⟩,
  ⟨fun K => ga K "_law_pick", "_law_pick", "_law_pick", s_law_pick, [], []⟩,
  ⟨fun K => ga K "_law_maker", "_law_maker", "_law_maker", s_law_maker, [], []⟩,
  ⟨fun K => ga K "_law_user", "_law_user", "_law_user", s_law_user, [], []⟩,
  ⟨fun K => ga K "_law_arrow", "_law_arrow", "_law_arrow", s_law_arrow, [], []⟩,
  ⟨fun K => ga K "_law_plan", "_law_plan", "_law_plan", s_law_plan, [], []⟩,
  ⟨fun K => ga K "is_whole", "is_whole", "is_whole", s_is_whole, [], []⟩,
  ⟨fun K => ga K "is_time", "is_time", "is_time", s_is_time, [], []⟩,
  ⟨fun K => ga K "is_list", "is_list", "is_list", s_is_list, [], []⟩,
  ⟨fun K => ga K "is_deed", "is_deed", "is_deed", s_is_deed, [], []⟩,
  ⟨fun K => ga K "makes", "makes", "makes", s_makes, [], []⟩,
  ⟨fun K => ga K "is_place", "is_place", "is_place", s_is_place, [], []⟩,
  ⟨fun K => ga K "is_arrow", "is_arrow", "is_arrow", s_is_arrow, [], []⟩,
  ⟨fun K => ga K "with_word", "with_word", "with_word", s_with_word, [], []⟩,
  ⟨fun K => ga K "check_nodes", "check_nodes", "check_nodes", s_check_nodes, [], []⟩,
  ⟨fun K => ga K "check_arrows", "check_arrows", "check_arrows", s_check_arrows, [], []⟩,
  ⟨fun K => ga K "check_anew", "check_anew", "check_anew", s_check_anew, [], []⟩,
  ⟨fun K => ga K "check_reached", "check_reached", "check_reached", s_check_reached, [], []⟩,
  ⟨fun K => ga K "is_moment", "is_moment", "is_moment", s_is_moment, [], []⟩,
  ⟨fun K => ga K "check_way", "check_way", "check_way", s_check_way, [], []⟩,
  ⟨fun K => ga K "is_row", "is_row", "is_row", s_is_row, [], []⟩,
  ⟨fun K => ga K "is_step", "is_step", "is_step", s_is_step, [], []⟩,
  ⟨fun K => ga K "follows", "follows", "follows", s_follows, [], []⟩,
  ⟨fun K => ga K "_law_row", "_law_row", "_law_row", s_law_row, [], []⟩,
  ⟨fun K => ga K "_law_right", "_law_right", "_law_right", s_law_right, [], []⟩,
  ⟨fun K => ga K "_law_bent", "_law_bent", "_law_bent", s_law_bent, [], []⟩,
  ⟨fun K => ma K (ga K "Way") "__init__", "__init__", "Way.__init__", s_Way___init__, [], []⟩,
  ⟨fun K => ma K (ga K "Way") "nodes", "nodes", "Way.nodes", s_Way_nodes, [], []⟩,
  ⟨fun K => ma K (ga K "Way") "arrows", "arrows", "Way.arrows", s_Way_arrows, [], []⟩,
  ⟨fun K => ma K (ga K "Way") "arrow", "arrow", "Way.arrow", s_Way_arrow, [], []⟩,
  ⟨fun K => ma K (ga K "Way") "__getitem__", "__getitem__", "Way.__getitem__", s_Way___getitem__, [], []⟩,
  ⟨fun K => ma K (ga K "Way") "__len__", "__len__", "Way.__len__", s_Way___len__, [], []⟩]
def hfacts (K : PySem.W.Frag) : List Bool := [(Fa.glo "is_whole").ok K,
  (Fa.glo "is_time").ok K,
  (Fa.glo "is_deed").ok K,
  (Fa.glo "makes").ok K,
  (Fa.free "isinstance").ok K,
  (Fa.free "len").ok K,
  (Fa.free "int").ok K,
  (Fa.free "bool").ok K,
  (Fa.free "tuple").ok K,
  (Fa.free "str").ok K,
  nowB K (ga K "SET_NOW") "make" ["read", "written", "changed"],
  nowB K (ga K "SET_NOW") "read" [],
  nowB K (ga K "SET_NOW") "write" ["written", "changed"],
  nowB K (ga K "SET_NOW") "rename" ["changed"],
  nowB K (ga K "SET_NOW") "touch" ["read", "written", "changed"],
  nowB K (ga K "SET_NOW") "unpack" ["read", "changed"],
  nowB K (ga K "SET_NOW") "setback" ["changed"],
  nowB K (ga K "SET_BACK") "unpack" ["written"],
  nowB K (ga K "SET_BACK") "setback" ["read", "written"],
  (Fa.glo "law").ok K,
  (Fa.free "abs").ok K,
  (Fa.glo "SET_NOW").ok K,
  (Fa.glo "SET_BACK").ok K,
  (["make", "read", "write", "rename", "touch"] : List Str).all fun x => eqO (PySem.W.nsIn K (ga K "SET_BACK") x) (some none),
  (Fa.free "max").ok K,
  (Fa.glo "NoWay").ok K,
  (Fa.glo "is_list").ok K,
  (Fa.glo "Way").ok K,
  (Fa.glo "is_place").ok K,
  (Fa.glo "is_arrow").ok K,
  (Fa.glo "with_word").ok K,
  (Fa.glo "check_nodes").ok K,
  (Fa.glo "check_arrows").ok K,
  (Fa.glo "check_anew").ok K,
  (Fa.glo "check_reached").ok K,
  (Fa.glo "is_moment").ok K,
  (Fa.glo "check_way").ok K,
  (Fa.glo "is_row").ok K,
  (Fa.glo "is_step").ok K,
  (Fa.glo "follows").ok K,
  (Fa.glo "_law_source").ok K,
  (Fa.glo "_law_draw").ok K,
  (Fa.glo "_law_pick").ok K,
  (Fa.glo "_law_maker").ok K,
  (Fa.glo "_law_user").ok K,
  (Fa.glo "_law_arrow").ok K,
  (Fa.glo "_law_plan").ok K,
  (Fa.glo "_law_row").ok K,
  (Fa.glo "_law_right").ok K,
  (Fa.glo "_law_bent").ok K,
  (Fa.free "list").ok K,
  (Fa.free "set").ok K,
  (Fa.free "enumerate").ok K,
  (Fa.free "range").ok K,
  (Fa.free "min").ok K,
  (Fa.free "zip").ok K,
  (Fa.free "all").ok K,
  (Fa.glo "WORDS").ok K,
  ktB K (ga K "WORDS") ["", "held", "anew"],
  (Fa.cls "Way").ok K,
  (Fa.noat "Way" "deeds").ok K,
  (Fa.noat "Way" "links").ok K,
  insB K (ga K "Way"),
  decide (PySem.W.kitOne K (.type "list") (.ref (ga K "Way")) = some false),
  lenB K (ga K "Way") (ma K (ga K "Way") "__len__"),
  giB K (ga K "Way") (ma K (ga K "Way") "__getitem__"),
  (Fa.mkr "Way").ok K,
  (Fa.meth "Way" "nodes").ok K,
  (Fa.meth "Way" "arrows").ok K,
  (Fa.meth "Way" "arrow").ok K]
def htabs : List Tab := [(fun K => ga K "SET_NOW", ["make", "read", "write", "rename", "touch", "unpack", "setback"]), (fun K => ga K "SET_BACK", ["unpack", "setback"])]
abbrev R : PySem.W.OpenRow := PySem.W.OpenLaw.row PySem.Challenge.rw_agedfiles_k14_rows_bent
abbrev hk : PySem.W.Hook := hookR 5 hfacts hdefs htabs
def ob (s : PySem.W.SharedT) : AF.SeenT := lookTR 5 hfacts hdefs htabs (HandSHeadRun.getT s)
theorem ob_eq (s : PySem.W.SharedT) : ob s = hk.obs s.abs := lookTR_eq (HandSHeadRun.getT_eq s)
abbrev names : List PySem.Str := (["__name__", "AgeError", "NoWay", "is_whole", "is_time", "is_moment", "is_list", "SET_NOW", "SET_BACK", "is_deed", "makes", "WORDS", "Way", "is_place", "is_arrow", "with_word", "check_nodes", "check_arrows", "check_anew", "check_reached", "check_way", "is_row", "is_step", "follows", "_law_source", "_law_draw", "_law_pick", "_law_maker", "_law_user", "_law_arrow"] : List PySem.Str) ++ (["_law_plan", "_law_row", "_law_right", "_law_bent"] : List PySem.Str)
theorem run0 (w : World) : HandSHeadRun.RunEq R (PySem.W.view R.prog [40]) hk ob 12000 names (w.withFollow "special-get-raises" false) := by
  intro os
  kernel_rfl
theorem run1 (w : World) : HandSHeadRun.RunEq R (PySem.W.view R.prog [40]) hk ob 12000 names (w.withFollow "special-get-raises" true) := by
  intro os
  kernel_rfl
theorem run (w : World) : HandSHeadRun.RunEq R (PySem.W.view R.prog [40]) hk ob 12000 names w :=
  PySem.W.byRow2 "special-get-raises" (P := fun w => HandSHeadRun.RunEq R (PySem.W.view R.prog [40]) hk ob 12000 names w) run0 run1 w
end

end KW
/-! sets of counts, told by pairs: the mathematics -/
namespace ST
abbrev Pr := Int × Option Int
def inP (x : Int) (p : Pr) : Prop := p.1 ≤ x ∧ ∀ h, p.2 = some h → x ≤ h
def Ok (p : Pr) : Prop := 0 ≤ p.1 ∧ ∀ h, p.2 = some h → p.1 ≤ h
def sem (ps : List Pr) (x : Int) : Prop := ∃ p, p ∈ ps ∧ inP x p
theorem sem_nil {x : Int} : sem [] x ↔ False := ⟨fun ⟨_, h, _⟩ => (nomatch h), False.elim⟩
theorem sem_cons {p : Pr} {r : List Pr} {x : Int} : sem (p :: r) x ↔ inP x p ∨ sem r x := by
  constructor
  · rintro ⟨q, hq, h⟩
    rcases List.mem_cons.mp hq with e | e
    · exact .inl (e ▸ h)
    · exact .inr ⟨q, e, h⟩
  · rintro (h | ⟨q, hq, h⟩)
    · exact ⟨p, List.mem_cons_self, h⟩
    · exact ⟨q, List.mem_cons_of_mem _ hq, h⟩
theorem sem_append {a b : List Pr} {x : Int} : sem (a ++ b) x ↔ sem a x ∨ sem b x := by
  constructor
  · rintro ⟨q, hq, h⟩
    rcases List.mem_append.mp hq with e | e
    · exact .inl ⟨q, e, h⟩
    · exact .inr ⟨q, e, h⟩
  · rintro (⟨q, hq, h⟩ | ⟨q, hq, h⟩)
    · exact ⟨q, List.mem_append_left _ hq, h⟩
    · exact ⟨q, List.mem_append_right _ hq, h⟩
/-- p ends well before q -/
def Bef (p q : Pr) : Prop := ∃ h, p.2 = some h ∧ h + 1 < q.1
inductive Canon : List Pr → Prop
  | nil : Canon []
  | one {p : Pr} : Ok p → Canon [p]
  | cons {p q : Pr} {r : List Pr} : Ok p → Bef p q → Canon (q :: r) → Canon (p :: q :: r)
theorem Canon.ok {p : Pr} {r : List Pr} (c : Canon (p :: r)) : Ok p := by
  cases c <;> assumption
theorem Canon.tail {p : Pr} {r : List Pr} (c : Canon (p :: r)) : Canon r := by
  cases c with
  | one => exact .nil
  | cons _ _ h => exact h
theorem Canon.oks : ∀ {l : List Pr}, Canon l → ∀ p, p ∈ l → Ok p
  | _ :: _, c, p, h => by
    rcases List.mem_cons.mp h with e | e
    · exact e ▸ c.ok
    · exact c.tail.oks p e
theorem Canon.lo : ∀ {r : List Pr} {p : Pr} {x : Int}, Canon (p :: r) → sem (p :: r) x → p.1 ≤ x
  | [], p, x, _, s => by
    rcases sem_cons.mp s with h | h
    · exact h.1
    · exact (sem_nil.mp h).elim
  | q :: r, p, x, c, s => by
    rcases sem_cons.mp s with h | h
    · exact h.1
    · cases c with
      | cons ok bf c' =>
        have := c'.lo h
        obtain ⟨e, he, hb⟩ := bf
        have := ok.2 e he
        omega
theorem Canon.sep {r : List Pr} {p : Pr} {x : Int} (c : Canon (p :: r)) (s : sem r x) : ∃ h, p.2 = some h ∧ h + 1 < x := by
  cases c with
  | one => exact (sem_nil.mp s).elim
  | cons ok bf c' =>
    have := c'.lo s
    obtain ⟨e, he, hb⟩ := bf
    exact ⟨e, he, by omega⟩
theorem in_low {p : Pr} (h : Ok p) : inP p.1 p := ⟨Int.le_refl _, h.2⟩
theorem Canon.nn {l : List Pr} {x : Int} (c : Canon l) (s : sem l x) : 0 ≤ x := by
  obtain ⟨p, hp, h⟩ := s
  have := (c.oks p hp).1
  have := h.1
  omega
theorem Canon.rest {r : List Pr} {p : Pr} {x : Int} (c : Canon (p :: r)) : sem r x ↔ sem (p :: r) x ∧ ¬ inP x p := by
  constructor
  · intro s
    obtain ⟨h, e, hb⟩ := c.sep s
    exact ⟨sem_cons.mpr (.inr s), fun i => by have := i.2 h e; omega⟩
  · rintro ⟨s, n⟩
    rcases sem_cons.mp s with h | h
    · exact absurd h n
    · exact h
theorem canon_uniq : ∀ {a b : List Pr}, Canon a → Canon b → (∀ x, sem a x ↔ sem b x) → a = b
  | [], [], _, _, _ => rfl
  | [], q :: t, _, cb, h => (sem_nil.mp ((h q.1).mpr (sem_cons.mpr (.inl (in_low cb.ok))))).elim
  | p :: r, [], ca, _, h => (sem_nil.mp ((h p.1).mp (sem_cons.mpr (.inl (in_low ca.ok))))).elim
  | p :: r, q :: t, ca, cb, h => by
    have l1 : q.1 ≤ p.1 := cb.lo ((h p.1).mp (sem_cons.mpr (.inl (in_low ca.ok))))
    have l2 : p.1 ≤ q.1 := ca.lo ((h q.1).mpr (sem_cons.mpr (.inl (in_low cb.ok))))
    have l3 : p.1 = q.1 := by omega
    have gap : ∀ {p : Pr} {r : List Pr} {e : Int}, Canon (p :: r) → p.2 = some e → ¬ sem (p :: r) (e + 1) := fun {p r e} c he s => by
      rcases sem_cons.mp s with i | i
      · have := i.2 e he; omega
      · obtain ⟨e', he', hb⟩ := c.sep i
        rw [he] at he'
        cases he'
        omega
    have le : p.2 = q.2 := by
      cases hp : p.2 with
      | none =>
        cases hq : q.2 with
        | none => rfl
        | some e =>
          have := cb.ok.2 e hq
          exact absurd ((h (e + 1)).mp (sem_cons.mpr (.inl ⟨by omega, fun h' e' => by rw [hp] at e'; cases e'⟩))) (gap cb hq)
      | some e =>
        have o1 := ca.ok.2 e hp
        cases hq : q.2 with
        | none => exact absurd ((h (e + 1)).mpr (sem_cons.mpr (.inl ⟨by omega, fun h' e' => by rw [hq] at e'; cases e'⟩))) (gap ca hp)
        | some e2 =>
          have o2 := cb.ok.2 e2 hq
          by_cases c1 : e < e2
          · exact absurd ((h (e + 1)).mpr (sem_cons.mpr (.inl ⟨by omega, fun h' e' => by rw [hq] at e'; cases e'; omega⟩))) (gap ca hp)
          · by_cases c2 : e2 < e
            · exact absurd ((h (e2 + 1)).mp (sem_cons.mpr (.inl ⟨by omega, fun h' e' => by rw [hp] at e'; cases e'; omega⟩))) (gap cb hq)
            · rw [show e = e2 by omega]
    have epq : p = q := Prod.ext l3 le
    subst epq
    rw [canon_uniq ca.tail cb.tail fun x => by rw [ca.rest, cb.rest, h x]]
/-! joining: sorted lows beside sorted highs -/
def loB (x : Int) (p : Pr) : Bool := decide (p.1 ≤ x)
def hiB (x : Int) (p : Pr) : Bool := match p.2 with
  | some h => decide (h < x)
  | none => false
theorem hi_lo {x : Int} {p : Pr} (o : Ok p) (h : hiB (x + 1) p = true) : loB x p = true := by
  unfold hiB at h
  unfold loB
  cases e : p.2 with
  | none => rw [e] at h; cases h
  | some u =>
    rw [e] at h
    have h := of_decide_eq_true h
    have := o.2 u e
    exact decide_eq_true (by omega)
theorem in_iff {x : Int} {p : Pr} : inP x p ↔ loB x p = true ∧ hiB x p = false := by
  unfold inP loB hiB
  cases e : p.2 with
  | none => simp
  | some u => simp [Int.not_lt]
theorem hi_mono {x : Int} {p : Pr} (h : hiB x p = true) : hiB (x + 1) p = true := by
  unfold hiB at h ⊢
  cases e : p.2 with
  | none => rw [e] at h; cases h
  | some u =>
    rw [e] at h
    have h := of_decide_eq_true h
    exact decide_eq_true (by omega)
theorem counts {x : Int} : ∀ {ps : List Pr}, (∀ p, p ∈ ps → Ok p) → ps.countP (hiB x) ≤ ps.countP (loB x) ∧ (sem ps x ↔ ps.countP (hiB x) < ps.countP (loB x))
  | [], _ => by simp [sem_nil]
  | p :: r, o => by
    have ih := counts (x := x) (ps := r) fun q h => o q (List.mem_cons_of_mem _ h)
    have op := o p List.mem_cons_self
    rw [List.countP_cons, List.countP_cons, sem_cons, in_iff, ih.2]
    have hl := fun z => hi_lo (x := x) op (hi_mono z)
    cases e1 : hiB x p <;> cases e2 : loB x p
    · simp; omega
    · simp; omega
    · rw [hl e1] at e2; cases e2
    · simp; omega
theorem counts2 {x : Int} : ∀ {ps : List Pr}, (∀ p, p ∈ ps → Ok p) → ps.countP (hiB (x + 1)) ≤ ps.countP (loB x)
  | [], _ => by simp
  | p :: r, o => by
    have ih := counts2 (x := x) (ps := r) fun q h => o q (List.mem_cons_of_mem _ h)
    have hl := hi_lo (x := x) (o p List.mem_cons_self)
    rw [List.countP_cons, List.countP_cons]
    cases e1 : hiB (x + 1) p
    · cases e2 : loB x p <;> simp <;> omega
    · rw [hl e1]; simp; omega
theorem cnt_lo {x : Int} (ps : List Pr) : ps.countP (loB x) = (ps.map (·.1)).countP fun v => decide (v ≤ x) := by
  rw [List.countP_map]; rfl
theorem cnt_hi {x : Int} : ∀ (ps : List Pr), ps.countP (hiB x) = (ps.filterMap (·.2)).countP fun v => decide (v < x)
  | [] => rfl
  | p :: r => by
    rw [List.countP_cons, cnt_hi r]
    unfold hiB
    cases e : p.2 with
    | none => rw [List.filterMap_cons, e]; simp
    | some u => rw [List.filterMap_cons, e]; simp only [List.countP_cons]
/-- in a sorted list -/
theorem srt_lo {x : Int} : ∀ {L : List Int} {k : Nat}, L.Pairwise (· ≤ ·) → (k < L.countP (fun v => decide (v ≤ x)) ↔ ∃ v, L[k]? = some v ∧ v ≤ x)
  | [], k, _ => by simp
  | v :: r, k, s => by
    rw [List.pairwise_cons] at s
    rw [List.countP_cons]
    by_cases c : v ≤ x
    · rw [if_pos (decide_eq_true c)]
      cases k with
      | zero => simp [c]
      | succ k =>
        rw [List.getElem?_cons_succ, ← srt_lo s.2]
        omega
    · have z : r.countP (fun v => decide (v ≤ x)) = 0 := List.countP_eq_zero.mpr fun u hu => by
        have := s.1 u hu
        simp only [decide_eq_true_eq]; omega
      rw [z]
      simp only [decide_eq_true_eq, c, if_false, Nat.add_zero, Nat.not_lt_zero, false_iff]
      rintro ⟨u, hu, hx⟩
      have : u ∈ v :: r := List.mem_of_getElem? hu
      rcases List.mem_cons.mp this with e | e
      · omega
      · have := s.1 u e; omega
theorem srt_hi {x : Int} {L : List Int} {k : Nat} (s : L.Pairwise (· ≤ ·)) : L.countP (fun v => decide (v < x)) ≤ k ↔ ∀ v, L[k]? = some v → x ≤ v := by
  have e : (fun v : Int => decide (v < x)) = fun v => decide (v ≤ x - 1) := funext fun v => by simp only [decide_eq_decide]; omega
  have h := srt_lo (x := x - 1) (k := k) s
  rw [e]
  constructor
  · intro hk v hv
    by_cases c : x ≤ v
    · exact c
    · have := h.mpr ⟨v, hv, by omega⟩; omega
  · intro hv
    by_cases c : k < L.countP (fun v => decide (v ≤ x - 1))
    · obtain ⟨v, e1, e2⟩ := h.mp c
      have := hv v e1; omega
    · omega
def zp : List Int → List Int → List Pr
  | [], _ => []
  | l :: ls, [] => (l, none) :: zp ls []
  | l :: ls, h :: hs => (l, some h) :: zp ls hs
theorem zp_get : ∀ {L Hs : List Int} {k : Nat} {p : Pr}, (zp L Hs)[k]? = some p ↔ L[k]? = some p.1 ∧ Hs[k]? = p.2
  | [], Hs, k, p => by simp [zp]
  | l :: ls, [], 0, p => by
    obtain ⟨a, b⟩ := p
    simp [zp, eq_comm]
  | l :: ls, [], k + 1, p => by
    show (zp ls [])[k]? = some p ↔ _
    rw [zp_get]; simp
  | l :: ls, h :: hs, 0, p => by
    obtain ⟨a, b⟩ := p
    simp [zp, eq_comm]
  | l :: ls, h :: hs, k + 1, p => by
    show (zp ls hs)[k]? = some p ↔ _
    rw [zp_get]; simp
theorem sem_get {ps : List Pr} {x : Int} : sem ps x ↔ ∃ (k : Nat) (p : Pr), ps[k]? = some p ∧ inP x p := by
  constructor
  · rintro ⟨p, hp, h⟩
    obtain ⟨k, hk⟩ := List.mem_iff_getElem?.mp hp
    exact ⟨k, p, hk, h⟩
  · rintro ⟨k, p, hk, h⟩
    exact ⟨p, List.mem_of_getElem? hk, h⟩
section
variable {ps : List Pr} {L Hs : List Int} (o : ∀ p, p ∈ ps → Ok p) (pL : L.Perm (ps.map (·.1))) (pH : Hs.Perm (ps.filterMap (·.2))) (sL : L.Pairwise (· ≤ ·)) (sH : Hs.Pairwise (· ≤ ·))
include o pL pH sL sH
theorem zp_sem (x : Int) : sem (zp L Hs) x ↔ sem ps x := by
  have c := (counts (x := x) o).2
  rw [cnt_lo, cnt_hi, ← pL.countP_eq, ← pH.countP_eq] at c
  rw [c, sem_get]
  constructor
  · rintro ⟨k, p, hk, i⟩
    obtain ⟨h1, h2⟩ := zp_get.mp hk
    have a := (srt_lo (x := x) sL).mpr ⟨p.1, h1, i.1⟩
    have b := (srt_hi (x := x) (k := k) sH).mpr fun v hv => i.2 v (by rw [← h2, hv])
    omega
  · intro h
    obtain ⟨v, e1, e2⟩ := (srt_lo (x := x) sL).mp h
    have b := (srt_hi (x := x) sH).mp (Nat.le_refl (Hs.countP fun v => decide (v < x)))
    exact ⟨_, (v, Hs[Hs.countP fun v => decide (v < x)]?), zp_get.mpr ⟨e1, rfl⟩, e2, fun u hu => b u hu⟩
theorem zp_ok : ∀ p, p ∈ zp L Hs → Ok p := by
  intro p hp
  obtain ⟨k, hk⟩ := List.mem_iff_getElem?.mp hp
  obtain ⟨h1, h2⟩ := zp_get.mp hk
  refine ⟨?_, fun u hu => ?_⟩
  · obtain ⟨q, hq, e⟩ := List.mem_map.mp (pL.mem_iff.mp (List.mem_of_getElem? h1))
    have := (o q hq).1
    omega
  · have c := counts2 (x := u) o
    rw [cnt_lo, cnt_hi, ← pL.countP_eq, ← pH.countP_eq] at c
    have b : ¬ Hs.countP (fun v => decide (v < u + 1)) ≤ k := fun z => by
      have := (srt_hi sH).mp z u (by rw [h2, hu]); omega
    obtain ⟨v, e1, e2⟩ := (srt_lo (x := u) (k := k) sL).mp (by omega)
    rw [h1] at e1
    cases e1
    exact e2
theorem hs_le : Hs.length ≤ L.length := by
  rw [pL.length_eq, pH.length_eq, List.length_map]
  exact List.length_filterMap_le _ _
end
/-! neighbours joined -/
def After (p q : Pr) : Prop := p.1 ≤ q.1 ∧ ∀ h', q.2 = some h' → ∃ h, p.2 = some h ∧ h ≤ h'
theorem zp_mem1 {L Hs : List Int} {p : Pr} (h : p ∈ zp L Hs) : p.1 ∈ L ∧ ∀ u, p.2 = some u → u ∈ Hs := by
  obtain ⟨k, hk⟩ := List.mem_iff_getElem?.mp h
  obtain ⟨h1, h2⟩ := zp_get.mp hk
  exact ⟨List.mem_of_getElem? h1, fun u hu => List.mem_of_getElem? (h2.trans hu)⟩
theorem zp_srt : ∀ {L Hs : List Int}, L.Pairwise (· ≤ ·) → Hs.Pairwise (· ≤ ·) → (zp L Hs).Pairwise After
  | [], Hs, _, _ => by simp [zp]
  | l :: ls, [], sL, sH => by
    rw [List.pairwise_cons] at sL
    show List.Pairwise After ((l, none) :: zp ls [])
    rw [List.pairwise_cons]
    refine ⟨fun q hq => ⟨sL.1 _ (zp_mem1 hq).1, fun h' e => (nomatch (zp_mem1 hq).2 h' e)⟩, zp_srt sL.2 sH⟩
  | l :: ls, h :: hs, sL, sH => by
    rw [List.pairwise_cons] at sL sH
    show List.Pairwise After ((l, some h) :: zp ls hs)
    rw [List.pairwise_cons]
    exact ⟨fun q hq => ⟨sL.1 _ (zp_mem1 hq).1, fun h' e => ⟨h, rfl, sH.1 _ ((zp_mem1 hq).2 h' e)⟩⟩, zp_srt sL.2 sH.2⟩
def anew (p q : Pr) : Bool := match p.2 with
  | some h => decide (h + 1 < q.1)
  | none => false
def glue (p : Pr) : List Pr → List Pr
  | [] => [p]
  | c :: t => (p.1, c.2) :: t
def grp : List Pr → List Pr
  | [] => []
  | [p] => [p]
  | p :: q :: r => if anew p q = true then p :: grp (q :: r) else glue p (grp (q :: r))
theorem grp_ok : ∀ {p : Pr} {r : List Pr}, (∀ q, q ∈ p :: r → Ok q) → (p :: r).Pairwise After → ∃ e t, grp (p :: r) = (p.1, e) :: t ∧ Canon ((p.1, e) :: t) ∧ (∀ h', e = some h' → ∃ h, p.2 = some h ∧ h ≤ h') ∧ ∀ x, sem ((p.1, e) :: t) x ↔ sem (p :: r) x
  | p, [], o, _ => ⟨p.2, [], rfl, .one (o p List.mem_cons_self), fun h' e => ⟨h', e, Int.le_refl _⟩, fun x => Iff.rfl⟩
  | p, q :: r, o, s => by
    rw [List.pairwise_cons] at s
    obtain ⟨e, t, h1, h2, h3, h4⟩ := grp_ok (p := q) (r := r) (fun u hu => o u (List.mem_cons_of_mem _ hu)) s.2
    have op := o p List.mem_cons_self
    have pq := s.1 q List.mem_cons_self
    unfold grp
    rw [h1]
    by_cases c : anew p q = true
    · rw [if_pos c]
      refine ⟨p.2, (q.1, e) :: t, rfl, .cons op ?_ h2, fun h' e => ⟨h', e, Int.le_refl _⟩, fun x => ?_⟩
      · unfold anew at c
        cases ep : p.2 with
        | none => rw [ep] at c; cases c
        | some u => rw [ep] at c; exact ⟨u, rfl, of_decide_eq_true c⟩
      · rw [sem_cons, h4 x]
        exact sem_cons.symm
    · rw [if_neg c]
      have o2 : Ok (p.1, e) := ⟨op.1, fun u hu => by have := h2.ok.2 u hu; have := pq.1; show p.1 ≤ u; exact Int.le_trans pq.1 (h2.ok.2 u hu)⟩
      refine ⟨e, t, rfl, ?_, fun h' e' => ?_, fun x => ?_⟩
      · cases h2 with
        | one => exact .one o2
        | cons _ bf c' => exact .cons o2 bf c'
      · obtain ⟨h, hq, hl⟩ := h3 h' e'
        obtain ⟨h0, hp, hl2⟩ := pq.2 h hq
        exact ⟨h0, hp, by omega⟩
      · rw [sem_cons, sem_cons (p := p), ← h4 x, sem_cons]
        constructor
        · rintro (i | i)
          · by_cases cx : q.1 ≤ x
            · exact .inr (.inl ⟨cx, i.2⟩)
            · refine .inl ⟨i.1, fun u hu => ?_⟩
              unfold anew at c
              rw [hu] at c
              simp only [decide_eq_true_eq] at c
              omega
          · exact .inr (.inr i)
        · rintro (i | i | i)
          · refine .inl ⟨i.1, fun u hu => ?_⟩
            obtain ⟨h, hq, hl⟩ := h3 u hu
            obtain ⟨h0, hp, hl2⟩ := pq.2 h hq
            have := i.2 h0 hp
            omega
          · exact .inl ⟨Int.le_trans pq.1 i.1, i.2⟩
          · exact .inr i
theorem grp_all {l : List Pr} (o : ∀ q, q ∈ l → Ok q) (s : l.Pairwise After) : Canon (grp l) ∧ ∀ x, sem (grp l) x ↔ sem l x := by
  cases l with
  | nil => exact ⟨.nil, fun _ => Iff.rfl⟩
  | cons p r =>
    obtain ⟨e, t, h1, h2, _, h4⟩ := grp_ok o s
    rw [h1]
    exact ⟨h2, h4⟩
/-! .. by places -/
def saB (L Hs : List Int) (k : Nat) : Bool := decide (k = 0) || (decide (k ≤ Hs.length) && decide (Hs.getD (k - 1) 0 + 1 < L.getD k 0))
def en (Hs : List Int) (g : Nat) : Option Int := if g ≤ Hs.length then some (Hs.getD (g - 1) 0) else none
def res (L Hs : List Int) (n : Nat) : List Nat → List Pr
  | [] => []
  | [s] => [(L.getD s 0, en Hs n)]
  | s :: s' :: r => (L.getD s 0, en Hs s') :: res L Hs n (s' :: r)
theorem zp_len : ∀ {L Hs : List Int}, (zp L Hs).length = L.length
  | [], _ => rfl
  | _ :: ls, [] => congrArg (· + 1) (zp_len (L := ls) (Hs := []))
  | _ :: ls, _ :: hs => congrArg (· + 1) (zp_len (L := ls) (Hs := hs))
theorem en_succ {Hs : List Int} {a : Nat} : en Hs (a + 1) = Hs[a]? := by
  unfold en
  by_cases c : a + 1 ≤ Hs.length
  · rw [if_pos c, Nat.add_sub_cancel, List.getD_eq_getElem?_getD, List.getElem?_eq_getElem (by omega)]; rfl
  · rw [if_neg c, List.getElem?_eq_none (by omega)]
theorem zp_at {L Hs : List Int} {a : Nat} (h : a < L.length) : (zp L Hs).drop a = (L.getD a 0, Hs[a]?) :: (zp L Hs).drop (a + 1) := by
  have e : (zp L Hs)[a]? = some (L.getD a 0, Hs[a]?) := zp_get.mpr ⟨by rw [List.getD_eq_getElem?_getD, List.getElem?_eq_getElem h]; rfl, rfl⟩
  obtain ⟨h1, h2⟩ := List.getElem?_eq_some_iff.mp e
  rw [List.drop_eq_getElem_cons h1, h2]
theorem sa_anew {L Hs : List Int} {a : Nat} : saB L Hs (a + 1) = anew (L.getD a 0, Hs[a]?) (L.getD (a + 1) 0, Hs[a + 1]?) := by
  unfold saB anew
  rw [← en_succ (a := a)]
  unfold en
  by_cases c : a + 1 ≤ Hs.length
  · rw [if_pos c]; simp [c]
  · rw [if_neg c]; simp [c]
theorem res_from {L Hs : List Int} : ∀ (d a : Nat), a + d + 1 = L.length → res L Hs L.length (a :: (List.range' (a + 1) d).filter (saB L Hs)) = grp ((zp L Hs).drop a)
  | 0, a, h => by
    have z : (zp L Hs).drop (a + 1) = [] := List.drop_eq_nil_of_le (by rw [zp_len]; omega)
    rw [zp_at (by omega), z]
    show [(L.getD a 0, en Hs L.length)] = [(L.getD a 0, Hs[a]?)]
    rw [← h, en_succ]
  | d + 1, a, h => by
    have ih := res_from (L := L) (Hs := Hs) d (a + 1) (by omega)
    rw [zp_at (by omega), zp_at (a := a + 1) (by omega)]
    rw [zp_at (a := a + 1) (by omega)] at ih
    unfold grp
    rw [List.range'_succ, List.filter_cons, sa_anew, ← ih]
    by_cases c : anew (L.getD a 0, Hs[a]?) (L.getD (a + 1) 0, Hs[a + 1]?) = true
    · rw [if_pos c, if_pos c]
      show (L.getD a 0, en Hs (a + 1)) :: _ = _
      rw [en_succ]
    · rw [if_neg c, if_neg c]
      cases (List.range' (a + 1 + 1) d).filter (saB L Hs) with
      | nil => rfl
      | cons f r => rfl
theorem res_grp {L Hs : List Int} : res L Hs L.length ((List.range L.length).filter (saB L Hs)) = grp (zp L Hs) := by
  cases e : L.length with
  | zero =>
    have : L = [] := List.length_eq_zero_iff.mp e
    subst this
    rfl
  | succ n =>
    have := res_from (L := L) (Hs := Hs) n 0 (by omega)
    rw [List.drop_zero] at this
    rw [← this, e, List.range_eq_range', List.range'_succ, List.filter_cons, if_pos (show saB L Hs 0 = true from rfl)]
/-- what merged tells -/
theorem merged_ok {ps : List Pr} {L Hs : List Int} (o : ∀ p, p ∈ ps → Ok p) (pL : L.Perm (ps.map (·.1))) (pH : Hs.Perm (ps.filterMap (·.2))) (sL : L.Pairwise (· ≤ ·)) (sH : Hs.Pairwise (· ≤ ·)) :
    Canon (res L Hs L.length ((List.range L.length).filter (saB L Hs))) ∧ ∀ x, sem (res L Hs L.length ((List.range L.length).filter (saB L Hs))) x ↔ sem ps x := by
  rw [res_grp]
  have g := grp_all (zp_ok o pL pH sL sH) (zp_srt sL sH)
  exact ⟨g.1, fun x => (g.2 x).trans (zp_sem o pL pH sL sH x)⟩
/-! both, and the gaps -/
def early (a b : Option Int) : Option Int := match a, b with
  | none, o => o
  | some x, none => some x
  | some x, some y => some (min x y)
def com : List Pr → List Pr → List Pr
  | [], _ => []
  | _ :: _, [] => []
  | p :: a, q :: b =>
    let lo := max p.1 q.1
    let hi := early p.2 q.2
    let rest := if p.2 = hi then com a (q :: b) else com (p :: a) b
    if (∀ h, hi = some h → lo ≤ h) then (lo, hi) :: rest else rest
termination_by a b => a.length + b.length
theorem early_le {a b : Option Int} {x : Int} : (∀ h, early a b = some h → x ≤ h) ↔ (∀ h, a = some h → x ≤ h) ∧ ∀ h, b = some h → x ≤ h := by
  cases a with
  | none => cases b <;> simp [early]
  | some u =>
    cases b with
    | none => simp [early]
    | some v =>
      simp only [early, Option.some.injEq, forall_eq']
      omega
theorem max_le' {a b x : Int} : max a b ≤ x ↔ a ≤ x ∧ b ≤ x := by omega
theorem in_both {p q : Pr} {x : Int} : inP x (max p.1 q.1, early p.2 q.2) ↔ inP x p ∧ inP x q := by
  unfold inP
  rw [max_le', early_le]
  constructor
  · rintro ⟨⟨a, b⟩, c, d⟩
    exact ⟨⟨a, c⟩, b, d⟩
  · rintro ⟨⟨a, c⟩, b, d⟩
    exact ⟨⟨a, b⟩, c, d⟩
theorem com_ok : ∀ (a b : List Pr), Canon a → Canon b → (∀ x, sem (com a b) x ↔ sem a x ∧ sem b x) ∧ ∀ p, p ∈ com a b → Ok p
  | [], b, _, _ => by
    unfold com
    exact ⟨fun x => by simp [sem_nil], fun p h => nomatch h⟩
  | p :: a, [], _, _ => by
    unfold com
    exact ⟨fun x => by simp [sem_nil], fun p h => nomatch h⟩
  | p :: a, q :: b, ca, cb => by
    have key : ∀ rest : List Pr, (∀ x, sem rest x ↔ if p.2 = early p.2 q.2 then sem a x ∧ sem (q :: b) x else sem (p :: a) x ∧ sem b x) → (∀ u, u ∈ rest → Ok u) →
        (∀ x, sem (if (∀ h, early p.2 q.2 = some h → max p.1 q.1 ≤ h) then (max p.1 q.1, early p.2 q.2) :: rest else rest) x ↔ sem (p :: a) x ∧ sem (q :: b) x) ∧
        ∀ u, u ∈ (if (∀ h, early p.2 q.2 = some h → max p.1 q.1 ≤ h) then (max p.1 q.1, early p.2 q.2) :: rest else rest) → Ok u := by
      intro rest hr ho
      have head : ∀ x, sem (if (∀ h, early p.2 q.2 = some h → max p.1 q.1 ≤ h) then (max p.1 q.1, early p.2 q.2) :: rest else rest) x ↔ (inP x p ∧ inP x q) ∨ sem rest x := fun x => by
        by_cases c : ∀ h, early p.2 q.2 = some h → max p.1 q.1 ≤ h
        · rw [if_pos c, sem_cons, in_both]
        · rw [if_neg c]
          constructor
          · exact .inr
          · rintro (i | i)
            · have i := in_both.mpr i
              exact absurd (fun h e => Int.le_trans i.1 (i.2 h e)) c
            · exact i
      refine ⟨fun x => ?_, fun u hu => ?_⟩
      · rw [head x, hr x, sem_cons (p := p) (r := a), sem_cons (p := q) (r := b)]
        by_cases c : p.2 = early p.2 q.2
        · rw [if_pos c]
          have no : inP x p → sem b x → False := fun i s => by
            obtain ⟨h, e, hb⟩ := cb.sep s
            rw [e] at c
            cases ep : p.2 with
            | none => rw [ep] at c; cases c
            | some u =>
              rw [ep] at c
              have c : u = min u h := Option.some.inj c
              have := i.2 u ep
              omega
          constructor
          · rintro (⟨i, j⟩ | ⟨i, j⟩)
            · exact ⟨.inl i, .inl j⟩
            · exact ⟨.inr i, j⟩
          · rintro ⟨i | i, j⟩
            · rcases j with j | j
              · exact .inl ⟨i, j⟩
              · exact (no i j).elim
            · exact .inr ⟨i, j⟩
        · rw [if_neg c]
          have no : sem a x → inP x q → False := fun s i => by
            obtain ⟨h, e, hb⟩ := ca.sep s
            rw [e] at c
            cases eq : q.2 with
            | none => rw [eq] at c; exact c rfl
            | some u =>
              rw [eq] at c
              have c : ¬ h = min h u := fun z => c (congrArg some z)
              have := i.2 u eq
              omega
          constructor
          · rintro (⟨i, j⟩ | ⟨i, j⟩)
            · exact ⟨.inl i, .inl j⟩
            · exact ⟨i, .inr j⟩
          · rintro ⟨i, j | j⟩
            · rcases i with i | i
              · exact .inl ⟨i, j⟩
              · exact (no i j).elim
            · exact .inr ⟨i, j⟩
      · split at hu
        · rename_i c
          rcases List.mem_cons.mp hu with e | e
          · subst e
            exact ⟨by have := ca.ok.1; have := cb.ok.1; show 0 ≤ max p.1 q.1; omega, c⟩
          · exact ho u e
        · exact ho u hu
    unfold com
    by_cases c : p.2 = early p.2 q.2
    · have ih := com_ok a (q :: b) ca.tail cb
      have k := key (com a (q :: b)) (fun x => by rw [if_pos c]; exact ih.1 x) ih.2
      simp only [if_pos c]
      exact k
    · have ih := com_ok (p :: a) b ca cb.tail
      have k := key (com (p :: a) b) (fun x => by rw [if_neg c]; exact ih.1 x) ih.2
      simp only [if_neg c]
      exact k
termination_by a b => a.length + b.length
def gp (lo : Int) : List Pr → List Pr
  | [] => [(lo, none)]
  | p :: r => (if lo < p.1 then [(lo, some (p.1 - 1))] else []) ++ (match p.2 with
    | none => []
    | some u => gp (u + 1) r)
theorem gp_ok : ∀ (l : List Pr) (lo : Int), Canon l → 0 ≤ lo → (∀ x, sem l x → lo ≤ x) → (∀ x, sem (gp lo l) x ↔ lo ≤ x ∧ ¬ sem l x) ∧ ∀ p, p ∈ gp lo l → Ok p
  | [], lo, _, h0, _ => by
    refine ⟨fun x => ?_, fun p hp => ?_⟩
    · show sem [(lo, none)] x ↔ _
      rw [sem_cons]
      simp [sem_nil, inP]
    · rcases List.mem_cons.mp hp with e | e
      · subst e; exact ⟨h0, fun h e => nomatch e⟩
      · cases e
  | p :: r, lo, c, h0, hl => by
    have ok := c.ok
    have l1 := hl p.1 (sem_cons.mpr (.inl (in_low ok)))
    have first : ∀ x, sem (if lo < p.1 then [(lo, some (p.1 - 1))] else []) x ↔ lo ≤ x ∧ x < p.1 := fun x => by
      by_cases k : lo < p.1
      · rw [if_pos k, sem_cons]
        simp only [sem_nil, or_false, inP, Option.some.injEq, forall_eq']
        omega
      · rw [if_neg k]
        simp only [sem_nil, false_iff]
        omega
    have firsto : ∀ u, u ∈ (if lo < p.1 then [(lo, some (p.1 - 1))] else []) → Ok u := fun u hu => by
      split at hu
      · rcases List.mem_cons.mp hu with e | e
        · subst e; exact ⟨h0, fun h e => by cases e; show lo ≤ p.1 - 1; omega⟩
        · cases e
      · cases hu
    unfold gp
    cases e : p.2 with
    | none =>
      have hr : r = [] := by
        cases c with
        | one => rfl
        | cons _ bf _ =>
          obtain ⟨u, hu, _⟩ := bf
          rw [e] at hu; cases hu
      subst hr
      refine ⟨fun x => ?_, fun u hu => ?_⟩
      · rw [sem_append, first x, sem_cons]
        simp only [sem_nil, or_false, inP, e]
        constructor
        · rintro ⟨a, b⟩
          exact ⟨a, fun z => by have := z.1; omega⟩
        · rintro ⟨a, b⟩
          refine ⟨a, ?_⟩
          by_cases z : x < p.1
          · exact z
          · exact absurd ⟨by omega, fun h e => nomatch e⟩ b
      · rcases List.mem_append.mp hu with z | z
        · exact firsto u z
        · cases z
    | some u =>
      have ou := ok.2 u e
      have ih := gp_ok r (u + 1) c.tail (by have := ok.1; omega) fun x s => by
        obtain ⟨h, e', hb⟩ := c.sep s
        rw [e] at e'; cases e'; omega
      refine ⟨fun x => ?_, fun v hv => ?_⟩
      · rw [sem_append, first x, ih.1 x, sem_cons]
        have hin : inP x p ↔ p.1 ≤ x ∧ x ≤ u := by
          unfold inP; rw [e]; simp
        rw [hin]
        constructor
        · rintro (⟨a, b⟩ | ⟨a, b⟩)
          · refine ⟨a, fun z => ?_⟩
            rcases z with z | z
            · omega
            · obtain ⟨h, e', hb⟩ := c.sep z
              rw [e] at e'; cases e'; omega
          · refine ⟨by omega, fun z => ?_⟩
            rcases z with z | z
            · omega
            · exact b z
        · rintro ⟨a, b⟩
          by_cases z : x < p.1
          · exact .inl ⟨a, z⟩
          · refine .inr ⟨?_, fun s => b (.inr s)⟩
            by_cases y : x ≤ u
            · exact absurd (.inl ⟨by omega, y⟩) b
            · omega
      · rcases List.mem_append.mp hv with z | z
        · exact firsto v z
        · exact ih.2 v z
theorem gaps_ok {l : List Pr} (c : Canon l) : (∀ x, sem (gp 0 l) x ↔ 0 ≤ x ∧ ¬ sem l x) ∧ ∀ p, p ∈ gp 0 l → Ok p := gp_ok l 0 c (by omega) fun x s => c.nn s
/-! the gaps stand apart, too: common wants that -/
theorem gp_canon : ∀ (l : List Pr) (lo : Int), Canon l → 0 ≤ lo → (∀ x, sem l x → lo ≤ x) → Canon (gp lo l) ∧ (∀ x, sem (gp lo l) x → lo ≤ x) := by
  intro l lo c h0 hl
  have sem2 : ∀ x, sem (gp lo l) x → lo ≤ x := fun x s => (((gp_ok l lo c h0 hl).1 x).mp s).1
  refine ⟨?_, sem2⟩
  induction l generalizing lo with
  | nil => exact .one ⟨h0, fun h e => nomatch e⟩
  | cons p r ih =>
    have ok := c.ok
    have l1 := hl p.1 (sem_cons.mpr (.inl (in_low ok)))
    unfold gp
    cases e : p.2 with
    | none =>
      by_cases k : lo < p.1
      · rw [if_pos k]; exact .one ⟨h0, fun h e => by cases e; show lo ≤ p.1 - 1; omega⟩
      · rw [if_neg k]; exact .nil
    | some u =>
      have ou := ok.2 u e
      have hl2 : ∀ x, sem r x → u + 1 ≤ x := fun x s => by
        obtain ⟨h, e', hb⟩ := c.sep s
        rw [e] at e'; cases e'; omega
      have i := ih (u + 1) c.tail (by have := ok.1; omega) hl2 fun x s => (((gp_ok r (u + 1) c.tail (by have := ok.1; omega) hl2).1 x).mp s).1
      by_cases k : lo < p.1
      · rw [if_pos k]
        show Canon ((lo, some (p.1 - 1)) :: gp (u + 1) r)
        cases g : gp (u + 1) r with
        | nil => exact .one ⟨h0, fun h e => by cases e; show lo ≤ p.1 - 1; omega⟩
        | cons q t =>
          rw [g] at i
          have q1 : u + 1 ≤ q.1 := (((gp_ok r (u + 1) c.tail (by have := ok.1; omega) hl2).1 q.1).mp (by rw [g]; exact sem_cons.mpr (.inl (in_low i.ok)))).1
          exact .cons ⟨h0, fun h e => by cases e; show lo ≤ p.1 - 1; omega⟩ ⟨p.1 - 1, rfl, by omega⟩ i
      · rw [if_neg k]; exact i
/-! how many -/
open Classical in
noncomputable def card (P : Int → Prop) : Nat → Int
  | 0 => 0
  | n + 1 => card P n + (if P (n : Int) then 1 else 0)
open Classical in
theorem card_or {P Q : Int → Prop} : ∀ n, card (fun x => P x ∨ Q x) n + card (fun x => P x ∧ Q x) n = card P n + card Q n
  | 0 => rfl
  | n + 1 => by
    have := card_or (P := P) (Q := Q) n
    show card _ n + _ + (card _ n + _) = card _ n + _ + (card _ n + _)
    by_cases a : P (n : Int) <;> by_cases b : Q (n : Int) <;> simp only [a, b, or_true, true_or, or_false, and_true, and_false, false_and, if_true, if_false, or_self, and_self] <;> omega
open Classical in
theorem card_congr {P Q : Int → Prop} (h : ∀ x, P x ↔ Q x) (n : Nat) : card P n = card Q n := by
  rw [show P = Q from funext fun x => propext (h x)]
open Classical in
theorem card_none {P : Int → Prop} (h : ∀ x, ¬ P x) : ∀ n, card P n = 0
  | 0 => rfl
  | n + 1 => by
    show card P n + _ = 0
    rw [card_none h n, if_neg (h _)]
    rfl
open Classical in
theorem card_int {l h : Int} (h0 : 0 ≤ l) (hl : l ≤ h) : ∀ n : Nat, card (fun x => l ≤ x ∧ x ≤ h) n = if (n : Int) ≤ l then 0 else (if (n : Int) ≤ h then (n : Int) - l else h + 1 - l)
  | 0 => by rw [if_pos (by omega)]; rfl
  | n + 1 => by
    show card _ n + _ = _
    rw [card_int h0 hl n]
    split <;> split <;> split <;> (try split) <;> (try split) <;> omega
def sumc (l : List Pr) : Int := (l.map fun p => (p.2.getD 0) - p.1 + 1).sum
def Ended (l : List Pr) : Prop := ∀ p, p ∈ l → ∃ h, p.2 = some h
open Classical in
theorem sumc_card : ∀ {l : List Pr}, Canon l → Ended l → ∃ N : Nat, ∀ n : Nat, N ≤ n → sumc l = card (sem l) n
  | [], _, _ => ⟨0, fun n _ => (card_none (fun x => by simp [sem_nil]) n).symm⟩
  | p :: r, c, e => by
    obtain ⟨N, hN⟩ := sumc_card c.tail fun q hq => e q (List.mem_cons_of_mem _ hq)
    obtain ⟨h, hp⟩ := e p List.mem_cons_self
    have ok := c.ok
    have l1 := ok.2 h hp
    refine ⟨N + (h + 1).toNat, fun n hn => ?_⟩
    have k := card_or (P := fun x => inP x p) (Q := sem r) n
    have z : card (fun x => inP x p ∧ sem r x) n = 0 := card_none (fun x ⟨i, s⟩ => (c.rest.mp s).2 i) n
    have i : card (fun x => inP x p) n = h + 1 - p.1 := by
      rw [card_congr (Q := fun x => p.1 ≤ x ∧ x ≤ h) (fun x => by unfold inP; rw [hp]; simp), card_int ok.1 l1 n, if_neg (by omega), if_neg (by omega)]
    rw [card_congr (Q := fun x => inP x p ∨ sem r x) (fun x => sem_cons)]
    have s := hN n (by omega)
    show ((p.2.getD 0) - p.1 + 1) + sumc r = _
    rw [hp]
    show h - p.1 + 1 + sumc r = _
    omega
theorem sumc_law {a b u v : List Pr} (ca : Canon a) (cb : Canon b) (cu : Canon u) (cv : Canon v) (ea : Ended a) (eb : Ended b) (eu : Ended u) (ev : Ended v) (hu : ∀ x, sem u x ↔ sem a x ∨ sem b x) (hv : ∀ x, sem v x ↔ sem a x ∧ sem b x) :
    sumc u + sumc v = sumc a + sumc b := by
  obtain ⟨n1, h1⟩ := sumc_card ca ea
  obtain ⟨n2, h2⟩ := sumc_card cb eb
  obtain ⟨n3, h3⟩ := sumc_card cu eu
  obtain ⟨n4, h4⟩ := sumc_card cv ev
  have k := card_or (P := sem a) (Q := sem b) (n1 + n2 + n3 + n4)
  rw [h1 (n1 + n2 + n3 + n4) (by omega), h2 (n1 + n2 + n3 + n4) (by omega), h3 (n1 + n2 + n3 + n4) (by omega), h4 (n1 + n2 + n3 + n4) (by omega), card_congr hu, card_congr hv]
  exact k
/-- an end, by what is in -/
theorem ended_iff {l : List Pr} (c : Canon l) : Ended l ↔ ∃ N : Int, ∀ x, sem l x → x ≤ N := by
  constructor
  · intro e
    induction l with
    | nil => exact ⟨0, fun x s => (sem_nil.mp s).elim⟩
    | cons p r ih =>
      obtain ⟨N, hN⟩ := ih c.tail fun q hq => e q (List.mem_cons_of_mem _ hq)
      obtain ⟨h, hp⟩ := e p List.mem_cons_self
      refine ⟨max N h, fun x s => ?_⟩
      rcases sem_cons.mp s with i | i
      · have := i.2 h hp; omega
      · have := hN x i; omega
  · rintro ⟨N, hN⟩ p hp
    cases e : p.2 with
    | some h => exact ⟨h, rfl⟩
    | none =>
      have := hN (max (N + 1) p.1) ⟨p, hp, by show p.1 ≤ _; omega, fun h e' => by rw [e] at e'; cases e'⟩
      omega
/-! moved and spread -/
def plus (a b : Option Int) : Option Int := match a, b with
  | some x, some y => some (x + y)
  | _, _ => none
theorem spread_one {p : Pr} {k x : Int} {m : Option Int} (o : Ok p) (hm : ∀ u, m = some u → k ≤ u) : inP x (p.1 + k, plus p.2 m) ↔ ∃ y, inP y p ∧ k ≤ x - y ∧ ∀ u, m = some u → x - y ≤ u := by
  constructor
  · rintro ⟨h1, h2⟩
    have h1 : p.1 + k ≤ x := h1
    cases em : m with
    | none => exact ⟨p.1, in_low o, by omega, fun u e => nomatch e⟩
    | some u =>
      have ku := hm u em
      refine ⟨max p.1 (x - u), ⟨by omega, fun h e => ?_⟩, by omega, fun v e => by cases e; omega⟩
      have := o.2 h e
      have := h2 (h + u) (by rw [em, e]; rfl)
      omega
  · rintro ⟨y, ⟨a, b⟩, c, d⟩
    refine ⟨by show p.1 + k ≤ x; omega, fun h e => ?_⟩
    cases ep : p.2 with
    | none => rw [ep] at e; cases m <;> cases e
    | some w =>
      cases em : m with
      | none => rw [ep, em] at e; cases e
      | some u =>
        rw [ep, em] at e
        cases e
        have := b w ep
        have := d u em
        omega
def spr (l : List Pr) (k : Int) (m : Option Int) : List Pr := l.map fun p => (p.1 + k, plus p.2 m)
theorem spr_ok {k : Int} {m : Option Int} (hk : 0 ≤ k) (hm : ∀ u, m = some u → k ≤ u) : ∀ {l : List Pr}, (∀ p, p ∈ l → Ok p) → (∀ x, sem (spr l k m) x ↔ ∃ y, sem l y ∧ k ≤ x - y ∧ ∀ u, m = some u → x - y ≤ u) ∧ ∀ p, p ∈ spr l k m → Ok p
  | [], _ => ⟨fun x => by simp [spr, sem_nil], fun p h => nomatch h⟩
  | p :: r, o => by
    have ih := spr_ok hk hm (l := r) fun q hq => o q (List.mem_cons_of_mem _ hq)
    have op := o p List.mem_cons_self
    refine ⟨fun x => ?_, fun q hq => ?_⟩
    · show sem ((p.1 + k, plus p.2 m) :: spr r k m) x ↔ _
      rw [sem_cons, ih.1 x, spread_one op hm]
      constructor
      · rintro (⟨y, a, b⟩ | ⟨y, a, b⟩)
        · exact ⟨y, sem_cons.mpr (.inl a), b⟩
        · exact ⟨y, sem_cons.mpr (.inr a), b⟩
      · rintro ⟨y, a, b⟩
        rcases sem_cons.mp a with a | a
        · exact .inl ⟨y, a, b⟩
        · exact .inr ⟨y, a, b⟩
    · rcases List.mem_cons.mp hq with e | e
      · subst e
        refine ⟨by show 0 ≤ p.1 + k; have := op.1; omega, fun h e => ?_⟩
        show p.1 + k ≤ h
        have e : plus p.2 m = some h := e
        cases ep : p.2 with
        | none => rw [ep] at e; cases m <;> cases e
        | some w =>
          cases em : m with
          | none => rw [ep, em] at e; cases e
          | some u =>
            rw [ep, em] at e
            cases e
            have := op.2 w ep
            have := hm u em
            omega
      · exact ih.2 q e
end ST
/-! bool of an own object and of a tuple; classes made by a promise with a star; enumerate of a tuple -/
namespace AF
open PySem PySem.Spec PyProof.Rows L2
open AutoSeq1 (wpAny_loadPart')
theorem meets_bool_any {prog : Program} {w : World} (x : Value) : MeetsIn prog w (Builtin.«bool.__new__» ⟨[.type "bool", x], []⟩) (fun A R s => wpAny (model prog w) A.in1 (truthy x) (fun b s' => R (.ok (.ret (.bool b))) s') (fun e s' => R (.error e) s') s) := by
  intro A R s h
  have f1 := F.conv_sub_bool
  repeat (any_goals (first | (refine wpAny_bind (wpAny_mono h ?_ ?_)) | wp_step))
  · exact fun b s' hR => wpAny_pure hR
  · exact fun _ _ h => h
theorem meets_enumerate_newT (l : Addr) (items : Array Value) (n : Nat) (dct : Option Addr) (sl : Array (Option Value)) :
    Meets (Builtin.«enumerate.__new__» ⟨[.type "enumerate", .ref l], []⟩) (fun _ R s => s.heap.get? l = some { cls := .type "tuple", dict := dct, data := .seq items n, slots := sl } ∧
      R (.ok (.ret (.ref (s.heap.push { cls := .type "tuple_iterator", data := .fields #[.ref l, .int 0 0] }).objs.size)))
        { s with heap := (s.heap.push { cls := .type "tuple_iterator", data := .fields #[.ref l, .int 0 0] }).push { cls := .type "enumerate", data := .fields #[.none, .bool false, .ref s.heap.objs.size, rawInt 0, .none, .none] } }) :=
  .of_wp fun prog w A R s h => by
    obtain ⟨hp, g, d, tk, os⟩ := s; obtain ⟨hl, h⟩ := h
    have hsub := sub_enumerate
    have hL : Heap.IsTuple (Shared.heap ⟨hp, g, d, tk, os⟩) l items := ⟨_, hl, rfl, n, rfl⟩
    wp_walk using wpAny_loadPart' hl
    refine wpAny_stack_any fun st => wpAny_pure ?_
    split
    · rename_i c _ _ _ _ _
      cases (c == Value.type "enumerate")
      · wp_walk using wpAny_loadPart' hl, wpAny_pyIter_tuple hL
        exact ⟨_, rfl, h⟩
      · wp_walk using wpAny_loadPart' hl, wpAny_pyIter_tuple hL
        exact ⟨_, rfl, h⟩
    · wp_walk using wpAny_loadPart' hl, wpAny_pyIter_tuple hL
      exact ⟨_, rfl, h⟩
theorem call_enumerate_tuple {prog : Program} {w : World} {A : Around} {E : Value → Shared → Prop} {s : Shared} {l : Addr} {items : Array Value} {Q : Value → Shared → Prop} (hL : s.heap.IsTuple l items)
    (h : ∀ h', IsEnum h' (s.heap.objs.size + 1) s.heap.objs.size 0 .none → h'.IsTupleIter s.heap.objs.size l 0 → h'.objs.size = s.heap.objs.size + 2 →
      (∀ b o, s.heap.get? b = some o → h'.get? b = some o) → Q (.ref (s.heap.objs.size + 1)) { s with heap := h' }) :
    wpAny (model prog w) A (call (.type "enumerate") [.ref l]) Q E s := by
  obtain ⟨⟨c, dct, dt, sl⟩, hl, hc, n, hd⟩ := hL
  replace hc : c = .type "tuple" := hc
  replace hd : dt = .seq items n := hd
  subst hc hd
  refine callType_new F.called_enumerate (by decide) (F.typeCall_enumerate_1 _) (F.newCall_enumerate_1 _) (fun obj => F.args_object_init_2 obj _) F.entry_enumerate_new
    (meets_enumerate_newT l items n dct sl) ⟨hl, ?_⟩
  have hz : (s.heap.push { cls := .type "tuple_iterator", data := .fields #[.ref l, .int 0 0] }).objs.size = s.heap.objs.size + 1 := Heap.size_push ..
  show _ ∧ _
  rw [hz]
  have he : IsEnum ((s.heap.push { cls := .type "tuple_iterator", data := .fields #[.ref l, .int 0 0] }).push
      { cls := .type "enumerate", data := .fields #[.none, .bool false, .ref s.heap.objs.size, rawInt 0, .none, .none] }) (s.heap.objs.size + 1) s.heap.objs.size 0 .none := by
    have := Heap.get?_push_size (s.heap.push { cls := .type "tuple_iterator", data := .fields #[.ref l, .int 0 0] })
      (o := { cls := .type "enumerate", data := .fields #[.none, .bool false, .ref s.heap.objs.size, rawInt 0, .none, .none] }) rfl
    rw [hz] at this; exact this
  refine ⟨⟨_, he, rfl⟩, h _ he ⟨_, Heap.get?_push_of_some _ (Heap.get?_push_size _ rfl), rfl, rfl⟩ (by rw [Heap.size_push, hz]) fun b o x => Heap.get?_push_of_some _ (Heap.get?_push_of_some _ x)⟩
/-- the tuple at a, each item in a new pair with its place -/
def Iten (K : PySem.W.Frag) (a : Addr) : It :=
  ⟨fun i H => ∃ (xs : List V) (x : V), SqT K H a xs ∧ xs[i]? = some x, fun i H v H' => ∃ T x, v = .ref T ∧ H T = none ∧ H' = upd H T (.tup [.int (i : Nat), x]) ∧ ∀ xs, SqT K H a xs → xs[i]? = some x, fun i H => ∃ xs : List V, SqT K H a xs ∧ xs.length ≤ i⟩
theorem turn_enumT {P : Program} {w : World} {K : PySem.W.Frag} {elts : List Expr} {kk : Nat} {tpos : Pos} (a e it : Addr) :
    Turn P w K (.Tuple elts kk tpos) (Iten K a) [e, it] e (fun i h => (∃ old, IsEnum h e it ((i : Nat) : Int) old) ∧ h.IsTupleIter it a i ∧ e ≠ it) where
  mem := by simp
  obj := fun i h st b hb => by
    obtain ⟨⟨old, he⟩, ⟨o, ho, hc, hd⟩, _⟩ := st
    have e' : b = e ∨ b = it := by simpa using hb
    rcases e' with z | z
    · rw [z]; exact ⟨_, he, fun v q => nomatch q⟩
    · rw [z]; exact ⟨o, ho, fun v q => by rw [hd] at q; cases q⟩
  keep := fun i h h' st k => let ⟨⟨old, he⟩, hi, hne⟩ := st; ⟨⟨old, k e (by simp) _ he⟩, hi.at fun o q => k it (by simp) o q, hne⟩
  item := by
    intro X hP hw hK hc i pins s σ H E I hf st hg
    subst hP hw hK
    obtain ⟨⟨old, he⟩, hit, hne⟩ := st
    obtain ⟨xs, x, hq, hx⟩ := hg
    obtain ⟨its, rv, p, hz⟩ := I.tuple hq
    obtain ⟨u, hu, ru⟩ := rv.get hx
    have hel : e < s.heap.objs.size := Heap.lt_size he
    have hil : it < s.heap.objs.size := by obtain ⟨_, q, _⟩ := hit; exact Heap.lt_size q
    have hap : a ≠ it := by
      intro z
      subst z
      obtain ⟨o1, q1, c1, _⟩ := hit
      have hT : s.heap.IsTuple a its.toArray := p
      obtain ⟨o2, q2, c2, _⟩ := hT
      have ee := q1.symm.trans q2
      injection ee with ee
      subst ee
      rw [c1] at c2
      revert c2
      decide
    have hae : e ≠ a := by
      intro z
      subst z
      have hT : s.heap.IsTuple e its.toArray := p
      obtain ⟨o2, q2, c2, _⟩ := hT
      have ee := he.symm.trans q2
      injection ee with ee
      subst ee
      revert c2
      show ¬ (Value.type "enumerate" = Value.type "tuple")
      decide
    have hlt : i < its.toArray.size := by
      have := (List.getElem?_eq_some_iff.mp hu).1
      simpa using this
    have hmem : e ∉ [it, a] := by
      intro z
      rcases List.mem_cons.mp z with z | z
      · exact hne z
      · exact hae (by simpa using z)
    refine wpAny_pyNext_enum_itemD (A := X.A) (Draws.tuple (A := X.A.in1) (show X.A.in1.handled = none from I.ok.hd hc) it a hap its.toArray) he ⟨hit, p⟩ hlt hne hmem fun u' h' tk hu' ho st' hT hsz hk => ?_
    have eu : u' = u := by
      have := hu'.symm.trans (show its.toArray[i]? = some u by simpa using hu)
      injection this
    subst eu
    refine ⟨_, rfl, wpAny_letOwnedTupleGo_enum (s := { s with heap := h', toks := tk + 1 }) ho fun h'' he' sb => ?_⟩
    have hT2 : h''.get? s.heap.objs.size = some { cls := .type "tuple", data := .seq #[.int i tk, u'] } := (sb.2 _ (Nat.ne_of_gt hel)).trans hT
    have new : ObjOk X.prog X.w (upd H s.heap.objs.size (.tup [.int (i : Nat), x])) h'' s.heap.objs.size (.tup [.int (i : Nat), x]) :=
      ⟨by show 2 ≤ sizeLine; decide, [.int i tk, u'], .cons ⟨_, rfl⟩ (.cons ru .nil), ⟨_, hT2, rfl, _, rfl⟩⟩
    have I1 : Inv X pins σ (upd H s.heap.objs.size (.tup [.int (i : Nat), x])) { s with heap := h'', toks := tk + 1 } :=
      I.turnedNew (ch := [e, it]) (fun b ob hb q => (sb.2 b (fun z => hb (by simp [z]))).trans (hk b ob (fun z => hb (by simp [z])) (fun z => hb (by simp [z])) q)) hf (Nat.le_refl _) new
    refine ⟨.ref s.heap.objs.size, _, I1, rfl, ⟨_, x, rfl, I.hok.fresh (Nat.le_refl _), rfl, fun ys hy => by rw [I.tuple_inj hy hq]; exact hx⟩, ⟨⟨u', ?_⟩, st'.1.at fun o q => (sb.2 it (Ne.symm hne)).trans q, hne⟩, fun b hb => ?_⟩
    · have e1 : ((i + 1 : Nat) : Int) = (i : Int) + 1 := by omega
      rw [e1]; exact he'
    · have hb' : b < s.heap.objs.size := by
        have e' : b = e ∨ b = it := by simpa using hb
        rcases e' with z | z
        · rw [z]; exact hel
        · rw [z]; exact hil
      rw [upd_ne (Nat.ne_of_lt hb')]
      exact (hf b hb).1
  done := by
    intro X hP hw hK hc i pins s σ H E I hf st hg
    subst hP hw hK
    obtain ⟨⟨old, he⟩, hit, hne⟩ := st
    obtain ⟨xs, hq, hx⟩ := hg
    obtain ⟨its, rv, p, hz⟩ := I.tuple hq
    obtain ⟨f0, f1, f2, f3, f4, f5⟩ := hf it (by simp)
    have hl := rv.length
    have hT : s.TypeIs (.ref e) "enumerate" := ⟨_, he, rfl⟩
    unfold pyNext
    refine wpAny_bind (wpAny_attempt (wpAny_callSpecial?_slot (name := Str.ofString "__next__") hT F.slot_enumerate_next
      (wpAny_call_entry F.slot_enumerate_next hT F.entry_enumerate_next ?_ (F.args_enumerate_next_1 _))))
    show wpAny _ _ (field (.ref e) 2 >>= _) _ _ _
    refine wpAny_bind (wpAny_field he rfl (x := .ref it) rfl ?_)
    refine wpAny_bind (wpAny_nextOf_tuple_end (A := X.A.in1) (items := its.toArray) (show X.A.in1.handled = none from I.ok.hd hc) hit p (by simp; omega) fun h' x he' hx' => ?_)
    obtain ⟨o, ho, hc'⟩ := hx'
    refine wpAny_bind (wpAny_isInstance (T := "StopIteration") (b := true) ⟨o, ho, hc'⟩ isSubtype_stop ?_)
    exact wpAny_pure ⟨rfl, I.turned (t' := s.toks) (fun b o hb q => he' b o hb q) f0 f1 f3 f4 f5⟩
  self := fun A i s Q E st h => let ⟨⟨_, he⟩, _⟩ := st; wpAny_pyIter_enum he h
end AF
/-! rules: enumerate of a tuple, bool, classes made by a star, the steps of the loops -/
namespace AF
open PySem PySem.Spec PyProof.Rows L2
def iEnumT (K : PySem.W.Frag) (ta : TA) : TI := fun σ H R => ta σ H fun vs H1 => ∃ a xs, vs = [.ref a] ∧ SqT K H1 a xs ∧ R (Iten K a) H1
theorem pi_enumT {X : Cx} {e : Expr} {ta : TA} {p pos tpos : Pos} {elts : List Expr} {kk : Nat} (hg : Gl X "enumerate") (hm : X.mg "enumerate" = none) (ha : PA X [e] ta) (hs : starEach [e] X.env = [(false, eval e X.env)] := by rfl) :
    PI X (.Tuple elts kk tpos) (.Call (.Name "enumerate" p) [e] [] pos) (iEnumT X.K ta) := by
  refine ⟨fun pins s σ H R I h => ?_⟩
  refine Call_ (ld_blt I hg hm boot_enumerate (PyProof.Rows.callWith_type1 (thn (ha.run pos pins s σ H _ I h) fun us s1 ⟨vs, H1, I1, r1, q1⟩ => ?_) hs rfl))
  obtain ⟨a, xs, ex, hq, q⟩ := q1
  subst ex
  cases r1 with
  | cons r rr =>
    cases rr
    cases r
    obtain ⟨its, rv, p', hz⟩ := I1.tuple hq
    refine call_enumerate_tuple (items := its.toArray) p' fun h' he hit hsz hk => wpAny_pyIter_enum he ?_
    have I2 : Inv X pins σ H1 { s1 with heap := h' } := I1.kept (t' := s1.toks) hk
    refine ⟨s1.heap.objs.size + 1, [s1.heap.objs.size + 1, s1.heap.objs.size], _, _, H1, rfl, I2, turn_enumT a (s1.heap.objs.size + 1) s1.heap.objs.size, ⟨⟨.none, he⟩, hit, Nat.succ_ne_self _⟩, fun b hb => ?_, q⟩
    have e' : b = s1.heap.objs.size + 1 ∨ b = s1.heap.objs.size := by simpa using hb
    have hle : s1.heap.objs.size ≤ b := by
      rcases e' with z | z
      · rw [z]; exact Nat.le_add_right _ _
      · rw [z]; exact Nat.le_refl _
    exact I1.fpOk hle (I1.hok.fresh hle)
/-- bool(x) of a tuple -/
def rBoolT (K : PySem.W.Frag) : List V → Hp → VK → Prop := fun xs H Q => ∃ a ys, xs = [.ref a] ∧ SqT K H a ys ∧ Q (.bl (!ys.isEmpty)) H
theorem cl_boolT {X : Cx} : CallR X (.type "bool") (rBoolT X.K) := by
  intro pins s σ H xs us Q I r h
  obtain ⟨a, ys, rfl, hx, q⟩ := h
  have hl := line63
  obtain ⟨u, rfl, rx⟩ := vals1 r
  cases rx
  obtain ⟨its, rv, pl, hz⟩ := I.tuple hx
  have hlen := rv.length
  refine callType_newIn PySem.F.called_bool PySem.F.newNe_bool (PySem.F.typeCall_bool_1 _) (PySem.F.newCall_bool_1 _) (fun obj => PySem.F.args_object_init_2 obj _) PySem.F.entry_bool_new (meets_bool_any _) ?_
  show wpAny _ _ _ _ _ _
  exact truthy_tuple pl (by simp only [List.size_toArray]; omega) ⟨rfl, .bl (!ys.isEmpty), H, I.tok _, by rw [isEmpty_of rv]; rfl, q⟩
theorem run_fnA {X : Cx} {k : Nat} {f : Addr} {fd : FuncData} {ps : List Str} {sp : Sp} {E : XK} {A : Around} {pins : List (Addr × Obj)} {σ : L2.St} {H : Hp} {s : Shared} {Q : VK} {us : List Value} {vs : List V} (F : FnOk X.prog X.w X.K X.mg X.base (L2.CX X.prog X.w) k f fd ps sp) (hr : Room k A) (hb : Binds X.K fd ps [])
    (e0 : Env0 X.prog X.w X.K X.mg X.base A X.stack s H) (hx : Passes (L2.CX X.prog X.w) X E) (I : L2.Inv X pins σ H s) (r : Vals vs us) (h : sp vs H Q E) : wpAny (model X.prog X.w) A (call (.ref f) us) (EP X pins σ Q) X.xe s := by
  have r2 : Vals vs (us ++ []) := by rw [List.append_nil]; exact r
  have hl : (us ++ []).length = ps.length := by rw [← r2.length]; exact F.len _ _ _ _ h
  refine wpAny_call (codeAny_mono (F.run A X.stack s H ⟨us, []⟩ (us ++ []) vs Q E hr e0 (hb s us I.kIn hl) r2 h) fun r s' hq => ?_)
  cases r with
  | error e => exact hx pins σ H s e s' I hq
  | ok fl =>
    cases fl with
    | ret u => exact I.after hq
    | next => exact False.elim hq
    | brk => exact False.elim hq
    | cont => exact False.elim hq
/-- bool(x) of an instance -/
structure BoolO (K : PySem.W.Frag) (C f : Addr) : Prop where
  at_ : PySem.W.findIn K (.ref C) "__bool__" = some (some (.ref f))
  fn : PySem.W.isFn K (.ref f) = true
def rBoolO (C : Addr) (sp : Sp) (E : XK) : List V → Hp → VK → Prop := fun xs H Q => ∃ a dx fs, xs = [.ref a] ∧ H a = some (.ins C dx fs) ∧ sp [.ref a] H (fun z H' => ∃ b, z = .bl b ∧ Q (.bl b) H') E
theorem cl_boolO {X : Cx} {k : Nat} {f C : Addr} {ps : List Str} {sp : Sp} {E : XK} (B : BoolO X.K C f) (D : Dn X.prog X.w X.K X.mg X.base k f ps sp) (hr : Room (k + 2) X.A) (hx : Passes (L2.CX X.prog X.w) X E) : CallR X (.type "bool") (rBoolO C sp E) := by
  intro pins s σ H xs us Q I r h
  obtain ⟨a, dx, fs, rfl, ha, q⟩ := h
  obtain ⟨fd, F, b⟩ := D.ex
  obtain ⟨u, rfl, rx⟩ := vals1 r
  cases rx
  obtain ⟨mA, O, _⟩ := ins_get I.hok ha
  obtain ⟨od, J, _⟩ := O.look
  obtain ⟨m, hF⟩ := I.fr
  refine callType_newIn PySem.F.called_bool PySem.F.newNe_bool (PySem.F.typeCall_bool_1 _) (PySem.F.newCall_bool_1 _) (fun obj => PySem.F.args_object_init_2 obj _) PySem.F.entry_bool_new (meets_bool_any _) ?_
  show wpAny _ _ _ _ _ _
  have hr2 : Room k X.A.in1.in1 := (show Room (k + 1) X.A.in1 from Room.in1 hr).in1
  refine PySem.W.truthy_K hF I.ok.mod.kin J B.at_ B.fn ?_
  refine wpAny_mono (run_fnA F hr2 b I.env0.in1.in1 hx I (Paired.cons (show RelV (.ref a) (.ref a) from rfl) .nil) q) (fun w s' z => ?_) fun _ _ x => x
  obtain ⟨z', H', I', rz, c, ec, qz⟩ := z
  subst ec
  cases rz
  exact ⟨rfl, .bl c, H', I', rfl, qz⟩
section
variable {X : Cx} {k : Nat} {f C : Addr} {sp : Sp} {E : XK} {x : Str} {e : Expr} {es : List Expr} {te : TE} {t : TA} {p pos sp_ : Pos}
/-- a class whose __init__ keeps a promise (with a star) -/
structure Ms (P : Program) (w : World) (K : PySem.W.Frag) (mg : Str → Option Value) (base : Heap) (k : Nat) (C : Addr) (sp : Sp) : Prop where
  ex : ∃ f, FnR P w K mg base (L2.CX P w) k f sp ∧ Mk K C f
def kMakeS (K : PySem.W.Frag) (C : Addr) (sp : Sp) (E : XK) (Q : VK) (y : V) (H : Hp) : Prop := ∃ a xs, y = .ref a ∧ (SqT K H a xs ∨ SqL K H a xs) ∧ kMake C sp E Q xs H
def tMk (C : Addr) (sp : Sp) (E : XK) (t : TA) : TE := fun σ H Q => t σ H (kMake C sp E Q)
theorem pe_mkR (D : Ms X.prog X.w X.K X.mg X.base k C sp) (hr : Room (k + 1) X.A) (hg : Gl X x) (hm : X.mg x = some (.ref C)) (hx : Passes (L2.CX X.prog X.w) X E) (ha : PA X (e :: es) t) (hdb : (x == ("__debug__" : Str)) = false := by decide)
    (he : starEach (e :: es) X.env = (false, eval e X.env) :: starEach es X.env := by rfl) (hpl : (backTo pos (starEach es X.env)).any (·.1) = false := by rfl) : PE X (.Call (.Name x p) (e :: es) [] pos) (tMk C sp E t) := by
  obtain ⟨f, F, M⟩ := D.ex
  refine ⟨fun pins s σ H Q I h => ?_⟩
  refine wpAny_Call_Name_kw (ld_glob I hg hm ?_ hdb)
  refine PySem.W.callWith_K (h₀ := X.base) I.ok.mod.kin M.kp (thn (ha.run pos pins s σ H _ I h) fun us s1 ⟨vs, H1, I1, r, q⟩ => ⟨I1.kIn, ?_⟩) he hpl
  exact StX.run_makeR M F hr hx I1 r q
theorem pe_mk0 (D : Ms X.prog X.w X.K X.mg X.base k C sp) (hr : Room (k + 1) X.A) (hg : Gl X x) (hm : X.mg x = some (.ref C)) (hx : Passes (L2.CX X.prog X.w) X E) (hdb : (x == ("__debug__" : Str)) = false := by decide) :
    PE X (.Call (.Name x p) [] [] pos) (tMk C sp E tNil) := by
  obtain ⟨f, F, M⟩ := D.ex
  refine ⟨fun pins s σ H Q I h => ?_⟩
  refine wpAny_Call_Name_kw (ld_glob I hg hm ?_ hdb)
  exact PySem.W.callWith_K0 I.kIn M.kp (StX.run_makeR M F hr hx I .nil h)
def tMkS (K : PySem.W.Frag) (C : Addr) (sp : Sp) (E : XK) (te : TE) : TE := fun σ H Q => te σ H (kMakeS K C sp E Q)
theorem pe_mkS (D : Ms X.prog X.w X.K X.mg X.base k C sp) (hr : Room (k + 1) X.A) (hg : Gl X x) (hm : X.mg x = some (.ref C)) (hx : Passes (L2.CX X.prog X.w) X E) (he : PE X e te) (hdb : (x == ("__debug__" : Str)) = false := by decide)
    (hst : starEach [.Starred e sp_] X.env = [(true, eval e X.env)] := by rfl) : PE X (.Call (.Name x p) [.Starred e sp_] [] pos) (tMkS X.K C sp E te) := by
  obtain ⟨f, F, M⟩ := D.ex
  refine ⟨fun pins s σ H Q I h => ?_⟩
  refine wpAny_Call_Name_kw (ld_glob I hg hm ?_ hdb)
  refine PySem.W.callWith_S (h₀ := X.base) I.ok.mod.kin M.kp (thn (he.run pins s σ H _ I h) fun v s1 ⟨y, H1, I1, ry, a, xs, ey, hxs, q⟩ => ?_) hst
  subst ey
  obtain rfl : v = Value.ref a := ry
  exact StX.star_any I1 hxs fun us s2 I2 rv => ⟨I2.kIn, StX.run_makeR M F hr hx I2 rv q⟩
end
/-- def f(p, *v): its promise -/
theorem okStar {P : Program} {w : World} {K : PySem.W.Frag} {mg : Str → Option Value} {base : Heap} {n q : Str} {params : Arguments} {body : List Stmt} {scope : Scope} {f : Addr} {fd : FuncData} {N : List Str} {p1 pv : Str} {k : Nat} {sp : Sp}
    (F : FunD K n q params body scope [] [] f fd) (S : FnScope N [p1, pv] scope)
    (h0 : ∀ (kV doc pm : Value) (an : Option Addr) (cdv ct : Value) (a : Value), bindArgs (PySem.W.fnOf n q params body scope .none kV doc pm an cdv ct) ⟨[a], []⟩ = (newTuple [] >>= fun t => pure [(p1, a), (pv, t)]))
    (h1 : ∀ (kV doc pm : Value) (an : Option Addr) (cdv ct : Value) (a r : Value) (rs : List Value), bindArgs (PySem.W.fnOf n q params body scope .none kV doc pm an cdv ct) ⟨a :: r :: rs, []⟩ = (newTuple (r :: rs) >>= fun t => pure [(p1, a), (pv, t)]))
    (hbody : ∀ (cdv : Value) (A : Around) (outer : List Env) (s : Shared) (H : Hp) (vs : List V) (Q : VK) (E : XK), Room k (A.deeper (envOfC q scope s.heap.objs.size f cdv)) → sp vs H Q E →
      ∃ t, PSs (cxOf (L2.CX P w) P w K mg base N q scope f cdv A outer s H E) body t ∧ t { nx := fun _ H' => Q .non H', rt := Q } (start N vs) H) :
    FnR P w K mg base (L2.CX P w) (k + 1) f (fun vs H Q E => ∃ ws rest, vs = ws ++ rest ∧ ws.length = [p1].length ∧ rest.length ≤ sizeLine ∧ ∀ p, H p = Option.none → sp (ws ++ [V.ref p]) (upd H p (.tup rest)) Q E) := by
  obtain ⟨oc, od, dV, kV, doc, pm, an, cdv, ct, osl, rfl, lk, hcd, hd, _⟩ := F.ex
  have e : dV = .none := by
    rcases hd with ⟨_, e⟩ | ⟨e, _⟩
    · exact e
    · exact absurd rfl e
  subst e
  exact StX.fn_star (ps := [p1]) (pv := pv) lk hcd S StX.cxUp (StX.bind_star1 (B := fun l => bindArgs (PySem.W.fnOf n q params body scope .none kV doc pm an cdv ct) ⟨l, []⟩) (p1 := p1) (pv := pv) (h0 kV doc pm an cdv ct) (h1 kV doc pm an cdv ct)) fun A outer s H vs Q E hr hsp => hbody cdv A outer s H vs Q E hr hsp
/-! the loops, by an own word -/
/-- for .. in enumerate(t), t a tuple that stays: by a word for each place -/
theorem for_enT {K : PySem.W.Frag} {a : Addr} {xs : List V} {g : TG} {tb : TS} {D : Ends} {σ : L2.St} {H : Hp} (Pv : Nat → L2.St → Hp → Prop) (h0 : Pv 0 σ H) (hl : ∀ i σ H, i ≤ xs.length → Pv i σ H → SqT K H a xs)
    (hs : ∀ i x σ H T, xs[i]? = some x → Pv i σ H → H T = none → g (.ref T) σ (upd H T (.tup [.int (i : Nat), x])) fun σ2 H2 => tb { D with nx := Pv (i + 1), ct := Pv (i + 1), bk := D.nx } σ2 H2) (hd : ∀ σ H, Pv xs.length σ H → D.nx σ H) : ForOk (Iten K a) g tb D σ H := by
  refine ⟨fun i m σ H => m = xs.length - i ∧ i ≤ xs.length ∧ Pv i σ H, ⟨xs.length, by simp, Nat.zero_le _, h0⟩, ?_⟩
  rintro i m σ H ⟨rfl, hi, p⟩
  have q := hl i σ H hi p
  by_cases hlt : i < xs.length
  · refine .inr ⟨⟨xs, xs[i], q, by simp [hlt]⟩, Pv (i + 1), fun σ' H' p' => ⟨xs.length - (i + 1), by omega, rfl, hlt, p'⟩, fun x H' y => ?_⟩
    obtain ⟨T, z, rfl, hT, rfl, y⟩ := y
    exact hs i z σ H T (y xs q) p hT
  · have e : i = xs.length := by omega
    subst e
    exact .inl ⟨⟨xs, q, Nat.le_refl _⟩, hd σ H p⟩
theorem for_enL {K : PySem.W.Frag} {a : Addr} {xs : List V} {g : TG} {tb : TS} {D : Ends} {σ : L2.St} {H : Hp} (Pv : Nat → L2.St → Hp → Prop) (h0 : Pv 0 σ H) (hl : ∀ i σ H, i ≤ xs.length → Pv i σ H → SqL K H a xs)
    (hs : ∀ i x σ H T, xs[i]? = some x → Pv i σ H → H T = none → g (.ref T) σ (upd H T (.tup [.int (i : Nat), x])) fun σ2 H2 => tb { D with nx := Pv (i + 1), ct := Pv (i + 1), bk := D.nx } σ2 H2) (hd : ∀ σ H, Pv xs.length σ H → D.nx σ H) : ForOk (Ite K a) g tb D σ H := by
  refine ⟨fun i m σ H => m = xs.length - i ∧ i ≤ xs.length ∧ Pv i σ H, ⟨xs.length, by simp, Nat.zero_le _, h0⟩, ?_⟩
  rintro i m σ H ⟨rfl, hi, p⟩
  have q := hl i σ H hi p
  by_cases hlt : i < xs.length
  · refine .inr ⟨⟨xs, xs[i], q, by simp [hlt]⟩, Pv (i + 1), fun σ' H' p' => ⟨xs.length - (i + 1), by omega, rfl, hlt, p'⟩, fun x H' y => ?_⟩
    obtain ⟨T, z, rfl, hT, rfl, y⟩ := y
    exact hs i z σ H T (y xs q) p hT
  · have e : i = xs.length := by omega
    subst e
    exact .inl ⟨⟨xs, q, Nat.le_refl _⟩, hd σ H p⟩
section
variable {K : PySem.W.Frag} {σ : L2.St} {H : Hp} {Q : VK} {ta : TA} {te td : TE} {g : TG} {tb : TS} {D : Ends} {r : V → List V → Hp → VK → Prop} {T : String} {x : V} {QB : Bool → Hp → Prop} {C : Addr} {sp : Sp} {E : XK}
def kEnT (K : PySem.W.Frag) (g : TG) (tb : TS) (D : Ends) (σ : L2.St) (vs : List V) (H1 : Hp) : Prop := ∃ a xs, vs = [.ref a] ∧ SqT K H1 a xs ∧ ForOk (Iten K a) g tb D σ H1
def kEnL (K : PySem.W.Frag) (g : TG) (tb : TS) (D : Ends) (σ : L2.St) (vs : List V) (H1 : Hp) : Prop := ∃ a xs, vs = [.ref a] ∧ SqL K H1 a xs ∧ ForOk (Ite K a) g tb D σ H1
instance : Step (tFor (iEnumT K ta) g tb D σ H) (ta σ H (kEnT K g tb D σ)) := ⟨fun h => h⟩
instance : Step (tFor (iEnum K ta) g tb D σ H) (ta σ H (kEnL K g tb D σ)) := ⟨fun h => h⟩
def kNotT (K : PySem.W.Frag) (Q : VK) (x : V) (H : Hp) : Prop := ∃ k, TruV K x H k ∧ Q (.bl (!k)) H
instance : Step (tNotT K te σ H Q) (te σ H (kNotT K Q)) := ⟨fun h => h⟩
instance : Step (tMk C sp E ta σ H Q) (ta σ H (kMake C sp E Q)) := ⟨fun h => h⟩
instance : Step (tMkS K C sp E te σ H Q) (te σ H (kMakeS K C sp E Q)) := ⟨fun h => h⟩
end
end AF
/-! sets of counts on the heap -/
namespace AF
open PySem PySem.Spec PyProof.Rows L2
open ST (Pr Ok sem Canon com gp early plus spr saB en sumc Ended)
def ov : Option Int → V
  | none => .non
  | some h => .int h
def Up (H H' : Hp) : Prop := ∀ b o, H b = some o → H' b = some o
def UpX (x : Addr) (H H' : Hp) : Prop := ∀ b o, b ≠ x → H b = some o → H' b = some o
theorem Up.rfl' {H : Hp} : Up H H := fun _ _ h => h
theorem Up.trans {H H1 H2 : Hp} (a : Up H H1) (b : Up H1 H2) : Up H H2 := fun p o h => b p o (a p o h)
theorem Up.new {H : Hp} {p : Addr} {o : HO} (h : H p = none) : Up H (upd H p o) := fun b u e => by
  rw [upd_ne (fun z => by rw [z] at e; rw [h] at e; cases e)]
  exact e
theorem Up.ch {H H' : Hp} (u : Up H H') : Ch [] H H' := fun b o h _ => u b o h
theorem Up.of {H H' : Hp} (c : Ch [] H H') : Up H H' := fun b o h => c b o h (by simp)
theorem Up.toX {H H' : Hp} {x : Addr} (u : Up H H') : UpX x H H' := fun b o _ h => u b o h
theorem UpX.set {H : Hp} {x : Addr} {o : HO} : UpX x H (upd H x o) := fun b u n e => by rw [upd_ne n]; exact e
theorem UpX.trans {H H1 H2 : Hp} {x : Addr} (a : UpX x H H1) (b : UpX x H1 H2) : UpX x H H2 := fun p o n h => b p o n (a p o n h)
theorem UpX.up {H H' : Hp} {x : Addr} (u : UpX x H H') (h : H x = none) : Up H H' := fun b o e => u b o (fun z => by rw [z] at e; rw [h] at e; cases e) e
inductive PrL (H : Hp) : List V → List Pr → Prop where
  | nil : PrL H [] []
  | cons {q : Addr} {vs : List V} {p : Pr} {l : List Pr} (h : H q = some (.tup [.int p.1, ov p.2])) (r : PrL H vs l) : PrL H (.ref q :: vs) (p :: l)
theorem PrL.up {H H' : Hp} (u : Up H H') : ∀ {vs : List V} {l : List Pr}, PrL H vs l → PrL H' vs l
  | _, _, .nil => .nil
  | _, _, .cons h r => .cons (u _ _ h) (r.up u)
theorem PrL.upX {H H' : Hp} {x : Addr} (u : UpX x H H') (hx : ∀ xs, H x ≠ some (.tup xs)) : ∀ {vs : List V} {l : List Pr}, PrL H vs l → PrL H' vs l
  | _, _, .nil => .nil
  | _, _, .cons h r => .cons (u _ _ (fun z => hx _ (by rw [z] at h; exact h)) h) (r.upX u hx)
theorem PrL.len {H : Hp} : ∀ {vs : List V} {l : List Pr}, PrL H vs l → vs.length = l.length
  | _, _, .nil => rfl
  | _, _, .cons _ r => congrArg (· + 1) r.len
theorem PrL.append {H : Hp} : ∀ {vs ws : List V} {l m : List Pr}, PrL H vs l → PrL H ws m → PrL H (vs ++ ws) (l ++ m)
  | _, _, _, _, .nil, b => b
  | _, _, _, _, .cons h r, b => .cons h (r.append b)
theorem PrL.get {H : Hp} : ∀ {vs : List V} {l : List Pr} {i : Nat} {v : V}, PrL H vs l → vs[i]? = some v → ∃ q p, v = .ref q ∧ l[i]? = some p ∧ H q = some (.tup [.int p.1, ov p.2])
  | _, _, 0, _, .cons h _, e => by
    cases e
    exact ⟨_, _, rfl, rfl, h⟩
  | _, _, i + 1, _, .cons _ r, e => r.get (i := i) e
theorem PrL.at_ {H : Hp} : ∀ {vs : List V} {l : List Pr} {i : Nat} {p : Pr}, PrL H vs l → l[i]? = some p → ∃ q, vs[i]? = some (.ref q) ∧ H q = some (.tup [.int p.1, ov p.2])
  | _, _, 0, _, .cons h _, e => by
    cases e
    exact ⟨_, rfl, h⟩
  | _, _, i + 1, _, .cons _ r, e => r.at_ (i := i) e
def Tp (H : Hp) (t : Addr) (l : List Pr) : Prop := ∃ vs, H t = some (.tup vs) ∧ PrL H vs l
def Lp (H : Hp) (t : Addr) (l : List Pr) : Prop := ∃ vs, H t = some (.lst vs) ∧ PrL H vs l
def TL (H : Hp) (t : Addr) (l : List Pr) : Prop := Tp H t l ∨ Lp H t l
theorem Tp.up {H H' : Hp} {t : Addr} {l : List Pr} (u : Up H H') : Tp H t l → Tp H' t l := fun ⟨vs, h, r⟩ => ⟨vs, u _ _ h, r.up u⟩
theorem Lp.up {H H' : Hp} {t : Addr} {l : List Pr} (u : Up H H') : Lp H t l → Lp H' t l := fun ⟨vs, h, r⟩ => ⟨vs, u _ _ h, r.up u⟩
theorem TL.up {H H' : Hp} {t : Addr} {l : List Pr} (u : Up H H') : TL H t l → TL H' t l := fun h => h.imp (Tp.up u) (Lp.up u)
def kp (t : Addr) : List (Str × V) := [("kept", .ref t)]
def Ss (C : Addr) (H : Hp) (x : Addr) (l : List Pr) : Prop := ∃ dx t, H x = some (.ins C dx (kp t)) ∧ Tp H t l
theorem Ss.up {C : Addr} {H H' : Hp} {t : Addr} {l : List Pr} (u : Up H H') : Ss C H t l → Ss C H' t l := fun ⟨dx, t, h, r⟩ => ⟨dx, t, u _ _ h, r.up u⟩
/-- a new set of these counts -/
def NewS (C : Addr) (P : Int → Prop) (n : Nat) (H : Hp) (Q : VK) : Prop := ∀ x H' c, H x = none → Up H H' → Ss C H' x c → Canon c → (∀ y, sem c y ↔ P y) → c.length ≤ n → Q (.ref x) H'
def rIxA (K : PySem.W.Frag) : R2 := fun x y H Q => rIxT K x y H Q ∨ rIxL K x y H Q
theorem ix_any {X : Cx} : IxR X (rIxA X.K) := by
  intro value slice pins s σ H x y v u Q I rx ry h hs
  rcases h with h | h
  · exact ix_tup value slice pins s σ H x y v u Q I rx ry h hs
  · exact ix_list value slice pins s σ H x y v u Q I rx ry h hs
theorem ai_nat {α : Type} {vs : List α} {i : Nat} {v : α} (ev : vs[i]? = some v) : atI vs (i : Int) = some v := by
  obtain ⟨hlt, _⟩ := List.getElem?_eq_some_iff.mp ev
  unfold atI ixN
  rw [if_pos (Int.natCast_nonneg i)]
  simp only [Int.toNat_natCast]
  first
    | rw [if_pos hlt]; exact ev
    | rw [if_pos (by omega)]; exact ev
theorem g_ixA {K : PySem.W.Frag} {H : Hp} {t : Addr} {l : List Pr} {i : Nat} {p : Pr} {Q : VK} (h : TL H t l) (e : l[i]? = some p) (q : ∀ q, H q = some (.tup [.int p.1, ov p.2]) → Q (.ref q) H) : rIxA K (.ref t) (.int (i : Nat)) H Q := by
  rcases h with ⟨vs, h, r⟩ | ⟨vs, h, r⟩
  · obtain ⟨a, ev, hq⟩ := r.at_ e
    exact .inl (g_ixT h (ai_nat ev) (q a hq))
  · obtain ⟨a, ev, hq⟩ := r.at_ e
    exact .inr ⟨t, vs, _, _, rfl, rfl, SqL.of h, ai_nat ev, q a hq⟩
theorem g_lenA {K : PySem.W.Frag} {H : Hp} {t : Addr} {l : List Pr} {Q : VK} (h : TL H t l) (q : Q (.int l.length) H) : rLenQ K [.ref t] H Q := by
  rcases h with ⟨vs, h, r⟩ | ⟨vs, h, r⟩
  · exact g_lent h (by rw [r.len]; exact q)
  · exact g_lenl h (by rw [r.len]; exact q)
theorem tup_any {K : PySem.W.Frag} {H : Hp} {t : Addr} {vs : List V} (h : H t = some (.tup vs)) : SqT K H t vs := SqT.of h
end AF
/-! two names out of a pair; lists of local use -/
namespace AF
open PySem PySem.Spec PyProof.Rows L2
open ST (Pr Ok sem Canon com gp early plus spr saB en sumc Ended)
section
variable {K : PySem.W.Frag} {σ σ1 σ2 : L2.St} {H : Hp} {te : TE} {i j : Nat} {nx : L2.St → Hp → Prop} {rt : VK} {bk ct : L2.St → Hp → Prop} {a : Addr} {u v : V} {Q : VK} {q : L2.St → Hp → Prop}
theorem g_gt2 [h1 : SetI σ i u σ1] [h2 : SetI σ1 j v σ2] (h : H a = some (.tup [u, v])) (k : q σ2 H) : gTup K 2 (gCons (gName i) (gCons (gName j) gNil)) (.ref a) σ H q :=
  ⟨a, [u, v], rfl, SqT.of h, rfl, u, [v], rfl, v, [], rfl, rfl, by
    show q ((σ.set i (some u)).set j (some v)) H
    rw [h1.eq, h2.eq]; exact k⟩
def kUn2 (K : PySem.W.Frag) (i j : Nat) (σ : L2.St) (nx : L2.St → Hp → Prop) (x : V) (H : Hp) : Prop := gTup K 2 (gCons (gName i) (gCons (gName j) gNil)) x σ H nx
instance : Step (tAsg te (gTup K 2 (gCons (gName i) (gCons (gName j) gNil))) ⟨nx, rt, bk, ct⟩ σ H) (te σ H (kUn2 K i j σ nx)) := ⟨fun h => h⟩
theorem g_un2 [h1 : SetI σ i u σ1] [h2 : SetI σ1 j v σ2] (h : H a = some (.tup [u, v])) (k : nx σ2 H) : kUn2 K i j σ nx (.ref a) H := g_gt2 h k
theorem g_l0 {xs : List V} (hn : Nat.ble xs.length 1000 = true) (q : ∀ p, H p = none → Q (.ref p) (upd H p (.lst xs))) : kLst Q xs H := ⟨line_of hn, q⟩
theorem g_t0 {xs : List V} (hn : Nat.ble xs.length 1000 = true) (q : ∀ p, H p = none → Q (.ref p) (upd H p (.tup xs))) : kTup Q xs H := ⟨line_of hn, q⟩
theorem g_isN {x : V} {r : Bool} (e : decide (x = V.non) = r) (q : Q (.bl r) H) : (fun x y H Q => y = V.non ∧ Q (V.bl (decide (x = V.non))) H : R2) x .non H Q := ⟨rfl, by rw [e]; exact q⟩
end
theorem ov_dec {a : Option Int} : decide (ov a = V.non) = a.isNone := by
  cases a <;> simp [ov]
end AF
/-! comprehensions over pairs and places -/
namespace AF
open PySem PySem.Spec PyProof.Rows L2
open ST (Pr Ok sem Canon com gp early plus spr saB en res sumc Ended)
theorem line1000 {n : Nat} (h : n ≤ 1000) : n < sizeLine := by
  have : sizeLine = 16777216 := sizeLine_eq
  omega
section
variable {K : PySem.W.Frag} {tt : TT} {te : TE} {ks : List Nat} {σ σ2 : L2.St} {Q : VK} {H : Hp} {a : Addr} {vs : List V} {l : List Pr} {i j : Nat} {ta : TA}
/-- [e for low, high in pairs if t], what is told is plain -/
theorem g_lcP (f : Pr → Option V) (hT : H a = some (.tup vs)) (hp : PrL H vs l) (hn : l.length ≤ 1000)
    (hb : ∀ p, p ∈ l → ∀ H1 (R : V → Hp → Prop) (N : Hp → Prop), Up H H1 → (∀ y, f p = some y → R y H1) → (f p = none → N H1) →
      wipe (((wipe σ ks).set i (some (.int p.1))).set j (some (ov p.2))) ks = wipe σ ks ∧ tt (((wipe σ ks).set i (some (.int p.1))).set j (some (ov p.2))) H1 fun b H3 => if b = true then te (((wipe σ ks).set i (some (.int p.1))).set j (some (ov p.2))) H3 R else N H3)
    (q : ∀ D H', H D = none → Up H H' → H' D = some (.lst (l.filterMap f)) → Q (.ref D) H') : kLcT K (gTup K 2 (gCons (gName i) (gCons (gName j) gNil))) tt te ks σ Q (.ref a) H := by
  refine ⟨a, rfl, ⟨vs, SqT.of hT⟩, fun D hD => ?_⟩
  have u0 : Up H (upd H D (.lst [])) := Up.new hD
  have hl := hp.len
  refine lc_tup (K := K) (xs := vs) (fun k H' => Up H H' ∧ H' D = some (.lst ((l.take k).filterMap f))) ⟨u0, upd_same⟩ (fun k H' _ p => SqT.of (p.1 _ _ hT)) (fun k x H' hx p => ?_) fun H' p => ?_
  · obtain ⟨uH, hD'⟩ := p
    obtain ⟨qa, pr, rfl, hlk, hq⟩ := hp.get hx
    obtain ⟨hlt, hget⟩ := List.getElem?_eq_some_iff.mp hlk
    have hm : pr ∈ l := hget ▸ List.getElem_mem hlt
    have etk : l.take (k + 1) = l.take k ++ [pr] := by rw [List.take_add_one, hlk]; rfl
    refine ⟨qa, _, rfl, SqT.of (uH _ _ hq), rfl, _, _, rfl, _, _, rfl, rfl, ?_⟩
    refine hb pr hm H' _ _ uH (fun y hy => ?_) fun hy => ?_
    · refine ⟨_, hD', line1000 (Nat.le_trans (List.length_filterMap_le _ _) (by rw [List.length_take]; omega)), ?_, ?_⟩
      · intro b o e
        rw [upd_ne (fun z => by rw [z] at e; rw [hD] at e; cases e)]
        exact uH _ _ e
      · rw [upd_same, etk, List.filterMap_append]
        simp [hy]
    · refine ⟨uH, ?_⟩
      rw [hD', etk, List.filterMap_append]
      simp [hy]
  · obtain ⟨uH, hD'⟩ := p
    refine q D H' hD uH ?_
    rw [hD', hl, List.take_length]
def kLcRg (g : TG) (tt : TT) (te : TE) (ks : List Nat) (σ : L2.St) (Q : VK) (j : Int) (H1 : Hp) : Prop := ∀ D, H1 D = none → ∃ W : Nat → Nat → Hp → Prop, (∃ m, W 0 m (upd H1 D (.lst []))) ∧ ∀ i m H, W i m H →
  ((Itr 0 j.toNat).stop i H ∧ Q (.ref D) H) ∨ ((Itr 0 j.toNat).go i H ∧ ∃ Nx : Hp → Prop, (∀ H', Nx H' → ∃ m', m' < m ∧ W (i + 1) m' H') ∧ ∀ x H', (Itr 0 j.toNat).yld i H x H' → g x (wipe σ ks) H' fun σ2 H2 => wipe σ2 ks = wipe σ ks ∧ tt σ2 H2 fun b H3 =>
    if b = true then te σ2 H3 fun y H4 => ∃ acc, H4 D = some (.lst acc) ∧ acc.length < sizeLine ∧ Nx (upd H4 D (.lst (acc ++ [y]))) else Nx H3)
instance {g : TG} : Step (tLc (iRng1 ta) g tt te ks σ H Q) (ta σ H (kR1 (kLcRg g tt te ks σ Q))) := ⟨fun h => h⟩
/-- [k for k in range(n) if t(k)] -/
theorem g_lcRg (t : Nat → Bool) {n : Nat} (hn : n ≤ 1000)
    (hb : ∀ k, k < n → ∀ H1 (R : Bool → Hp → Prop), Up H H1 → R (t k) H1 → wipe ((wipe σ ks).set i (some (.int k))) ks = wipe σ ks ∧ tt ((wipe σ ks).set i (some (.int k))) H1 R)
    (he : ∀ k, k < n → ((wipe σ ks).set i (some (.int (k : Nat))))[i]? = some (some (.int (k : Nat))))
    (q : ∀ D H', H D = none → Up H H' → H' D = some (.lst (((List.range n).filter t).map fun k => V.int (k : Nat))) → Q (.ref D) H') : kLcRg (gName i) tt (tVar i) ks σ Q (n : Int) H := by
  intro D hD
  have u0 : Up H (upd H D (.lst [])) := Up.new hD
  rw [Int.toNat_natCast]
  refine lc_range (lo := 0) (n := n) (fun k H' => Up H H' ∧ H' D = some (.lst (((List.range k).filter t).map fun k => V.int (k : Nat)))) ⟨u0, upd_same⟩ (fun k H' hk p => ?_) fun H' p => q D H' hD p.1 p.2
  obtain ⟨uH, hD'⟩ := p
  show wipe ((wipe σ ks).set i (some (.int (0 + (k : Int))))) ks = wipe σ ks ∧ _
  rw [Int.zero_add]
  refine hb k hk H' _ uH ?_
  have er : List.range (k + 1) = List.range k ++ [k] := List.range_succ
  cases ht : t k with
  | true =>
    rw [if_pos rfl]
    refine ⟨_, he k hk, _, hD', line1000 ?_, ?_, ?_⟩
    · rw [List.length_map]
      exact Nat.le_trans (List.length_filter_le _ _) (by rw [List.length_range]; omega)
    · intro b o e
      rw [upd_ne (fun z => by rw [z] at e; rw [hD] at e; cases e)]
      exact uH _ _ e
    · rw [upd_same, er, List.filter_append]
      simp [ht]
  | false =>
    rw [if_neg (by decide)]
    refine ⟨uH, ?_⟩
    rw [hD', er, List.filter_append]
    simp [ht]
end
theorem g_iv {b : Bool} {ta tb : VK → Prop} {v : V} {H : Hp} {Q : VK} (h1 : b = true → ∀ Q : VK, Q v H → ta Q) (h2 : b = false → ∀ Q : VK, Q v H → tb Q) (q : Q v H) : if b = true then ta Q else tb Q := by
  cases b with
  | true => rw [if_pos rfl]; exact h1 rfl Q q
  | false => rw [if_neg (by decide)]; exact h2 rfl Q q
theorem Up.setF {H H' : Hp} {p : Addr} {o : HO} (u : Up H H') (h : H p = none) : Up H (upd H' p o) := fun b x e => by
  rw [upd_ne (fun z => by rw [z] at e; rw [h] at e; cases e)]
  exact u _ _ e
theorem PrL.setL {H : Hp} {p : Addr} {ys : List V} {o : HO} {vs : List V} {l : List Pr} (r : PrL H vs l) (h : H p = some (.lst ys)) : PrL (upd H p o) vs l := r.upX UpX.set (fun xs e => by rw [h] at e; cases e)
theorem line2 {n : Nat} (h : n ≤ 2000) : n < sizeLine := by
  have : sizeLine = 16777216 := sizeLine_eq
  omega
instance {i : Nat} {v : V} {σ : L2.St} {H : Hp} {te : TE} {ti : TIp} {nx : L2.St → Hp → Prop} {rt : VK} {bk ct : L2.St → Hp → Prop} [h : SlotI σ i v] : Step (tAug i te ti ⟨nx, rt, bk, ct⟩ σ H) (te σ H fun y H1 => ti v y H1 fun z H2 => nx (σ.set i (some z)) H2) := ⟨fun q => ⟨v, h.at_, q⟩⟩
instance {g : Int → Int → Int} {x y : Int} {H : Hp} {Q : VK} : Step (ipI g (.int x) (.int y) H Q) (Q (.int (g x y)) H) := ⟨fun q => ⟨x, y, rfl, rfl, q⟩⟩
theorem Tp.upX {H H' : Hp} {x t : Addr} {l : List Pr} (u : UpX x H H') (hx : ∀ xs, H x ≠ some (.tup xs)) : Tp H t l → Tp H' t l := fun ⟨vs, h, r⟩ => ⟨vs, u _ _ (fun z => hx _ (by rw [z] at h; exact h)) h, r.upX u hx⟩
theorem UpX.of {H H' : Hp} {x : Addr} (c : Ch [x] H H') : UpX x H H' := fun b o n h => c b o h (by simp [n])
/-- two ways that come together: W is what both lead to *-/
theorem g_meet {b : Bool} {t u : TS} {nx : L2.St → Hp → Prop} {rt : VK} {bk ct : L2.St → Hp → Prop} {σ : L2.St} {H : Hp} (W : L2.St → Hp → Prop) (h1 : b = true → ∀ nx' : L2.St → Hp → Prop, (∀ σ H, W σ H → nx' σ H) → t ⟨nx', rt, bk, ct⟩ σ H) (h2 : b = false → ∀ nx' : L2.St → Hp → Prop, (∀ σ H, W σ H → nx' σ H) → u ⟨nx', rt, bk, ct⟩ σ H)
    (q : ∀ σ H, W σ H → nx σ H) : if b = true then t ⟨nx, rt, bk, ct⟩ σ H else u ⟨nx, rt, bk, ct⟩ σ H := by
  cases b with
  | true => rw [if_pos rfl]; exact h1 rfl nx q
  | false => rw [if_neg (by decide)]; exact h2 rfl nx q
def gpn (b : Option Int) (r : List Pr) : List Pr := match b with
  | none => []
  | some u => gp (u + 1) r
theorem g_eqO {x y : Option Int} {H : Hp} {Q : VK} (q : Q (.bl (decide (x = y))) H) : rEq (ov x) (ov y) H Q := by
  have e : decide (ov x = ov y) = decide (x = y) := by
    cases x <;> cases y <;> simp [ov]
  refine ⟨?_, by rw [e]; exact q⟩
  cases x <;> cases y <;> rfl
/-- the rest of com behind a step *-/
def comr (p q : Pr) (a b : List Pr) : List Pr := if p.2 = early p.2 q.2 then com a (q :: b) else com (p :: a) b
theorem com_yes {p q : Pr} {a b : List Pr} (c : ∀ h, early p.2 q.2 = some h → max p.1 q.1 ≤ h) : com (p :: a) (q :: b) = (max p.1 q.1, early p.2 q.2) :: comr p q a b := by
  conv => lhs; unfold com
  simp only []
  rw [if_pos c]
  rfl
theorem com_no {p q : Pr} {a b : List Pr} (c : ¬ ∀ h, early p.2 q.2 = some h → max p.1 q.1 ≤ h) : com (p :: a) (q :: b) = comr p q a b := by
  conv => lhs; unfold com
  simp only []
  rw [if_neg c]
  rfl
theorem com_nil2 {a : List Pr} : com a [] = [] := by
  cases a <;> (unfold com; rfl)
theorem com_nil1 {b : List Pr} : com [] b = [] := by
  unfold com; rfl
theorem g_tYes {te : TE} {R : V → Hp → Prop} {N : Hp → Prop} {σ : L2.St} {H : Hp} (h : te σ H R) : tYes σ H fun b H3 => if b = true then te σ H3 R else N H3 := by
  show if (true : Bool) = true then te σ H R else N H
  rw [if_pos rfl]
  exact h
theorem res_at {L Hs : List Int} {n : Nat} : ∀ {st : List Nat} {k s : Nat}, st[k]? = some s → (res L Hs n st)[k]? = some (L.getD s 0, en Hs (st[k + 1]?.getD n))
  | [s], 0, _, e => by
    cases e
    rfl
  | s :: s' :: r, 0, _, e => by
    cases e
    rfl
  | [s], k + 1, _, e => by cases e
  | s :: s' :: r, k + 1, x, e => by
    have z := res_at (L := L) (Hs := Hs) (n := n) (st := s' :: r) (k := k) (s := x) e
    simpa [res] using z
theorem res_len {L Hs : List Int} {n : Nat} : ∀ {st : List Nat}, (res L Hs n st).length = st.length
  | [] => rfl
  | [_] => rfl
  | s :: s' :: r => by
    show (res L Hs n (s' :: r)).length + 1 = _
    rw [res_len]
    rfl
theorem fil_lt {n : Nat} {t : Nat → Bool} {k s : Nat} (e : ((List.range n).filter t)[k]? = some s) : s < n := by
  have := List.mem_of_getElem? e
  rw [List.mem_filter, List.mem_range] at this
  exact this.1
theorem fil_pos {n : Nat} {t : Nat → Bool} {k s : Nat} (e : ((List.range n).filter t)[k + 1]? = some s) : 1 ≤ s := by
  obtain ⟨h1, e1⟩ := List.getElem?_eq_some_iff.mp e
  have p : ((List.range n).filter t).Pairwise (· < ·) := List.Pairwise.filter _ List.pairwise_lt_range
  have := List.pairwise_iff_getElem.mp p k (k + 1) (by omega) h1 (by omega)
  omega
theorem com_len : ∀ (a b : List Pr), (com a b).length ≤ a.length + b.length
  | [], b => by unfold com; simp
  | _ :: _, [] => by unfold com; simp
  | p :: a, q :: b => by
    have h1 := com_len a (q :: b)
    have h2 := com_len (p :: a) b
    unfold com
    simp only [List.length_cons] at h1 h2 ⊢
    by_cases c1 : p.2 = early p.2 q.2 <;> by_cases c2 : (∀ h, early p.2 q.2 = some h → max p.1 q.1 ≤ h)
    · rw [if_pos c1, if_pos c2]; simp only [List.length_cons]; omega
    · rw [if_pos c1, if_neg c2]; omega
    · rw [if_neg c1, if_pos c2]; simp only [List.length_cons]; omega
    · rw [if_neg c1, if_neg c2]; omega
termination_by a b => a.length + b.length
theorem gp_len : ∀ (l : List Pr) (lo : Int), (gp lo l).length ≤ l.length + 1 := by
  intro l
  induction l with
  | nil => intro lo; unfold gp; simp
  | cons p r ih =>
    intro lo
    obtain ⟨a, b⟩ := p
    have h0 : (if lo < a then [((lo, some (a - 1)) : Pr)] else []).length ≤ 1 := by split <;> simp
    cases b with
    | none =>
      show ((if lo < a then [((lo, some (a - 1)) : Pr)] else []) ++ []).length ≤ _
      rw [List.append_nil, List.length_cons]
      omega
    | some u =>
      show ((if lo < a then [((lo, some (a - 1)) : Pr)] else []) ++ gp (u + 1) r).length ≤ _
      have := ih (u + 1)
      rw [List.length_append, List.length_cons]
      omega
end AF
/-! equal tuples of pairs; comprehensions that make pairs *-/
namespace AF
open PySem PySem.Spec PyProof.Rows L2
open ST (Pr Ok sem Canon com gp early plus spr saB en res sumc Ended)
def od : Option Int → PyData
  | none => .none
  | some i => .int i
def prD (p : Pr) : PyData := .tuple [.int p.1, od p.2]
theorem od_can (o : Option Int) : (od o).canLay0 = true := by cases o <;> rfl
theorem od_dep (o : Option Int) : (od o).depth = 0 := by cases o <;> rfl
theorem prD_can (p : Pr) : (prD p).canLay0 = true := by
  show ((PyData.int p.1).canLay0 && ((od p.2).canLay0 && true)) = true
  rw [od_can]; rfl
theorem prD_dep (p : Pr) : (prD p).depth = 1 := by
  show max (PyData.int p.1).depth (max (od p.2).depth 0) + 1 = 1
  rw [od_dep]; rfl
theorem all_can : ∀ l : List Pr, PyData.canLayAll0 (l.map prD) = true
  | [] => rfl
  | p :: r => by
    show ((prD p).canLay0 && PyData.canLayAll0 (r.map prD)) = true
    rw [prD_can, all_can r]; rfl
theorem all_dep : ∀ l : List Pr, PyData.depthAll (l.map prD) ≤ 1
  | [] => Nat.zero_le _
  | p :: r => by
    show max (prD p).depth (PyData.depthAll (r.map prD)) ≤ 1
    have := all_dep r
    rw [prD_dep]; omega
theorem tupD (l : List Pr) : SeqAt.shaped (.tuple (l.map prD)) = true := by
  show ((PyData.tuple (l.map prD)).canLay0 && decide ((PyData.tuple (l.map prD)).depth ≤ 64)) = true
  have h1 : (PyData.tuple (l.map prD)).canLay0 = true := all_can l
  have h2 : (PyData.tuple (l.map prD)).depth ≤ 64 := by
    have := all_dep l
    show PyData.depthAll (l.map prD) + 1 ≤ 64
    omega
  rw [h1, decide_eq_true h2]; rfl
theorem od_eqv (x y : Option Int) : PyData.eqv (od x) (od y) = decide (x = y) := by
  cases x <;> cases y
  · rfl
  · simp [od, PyData.eqv]
  · simp [od, PyData.eqv]
  · rename_i a b
    show (a == b) = decide (some a = some b)
    simp only [Option.some.injEq]
    rfl
theorem prD_eqv (p q : Pr) : PyData.eqv (prD p) (prD q) = decide (p = q) := by
  obtain ⟨a, b⟩ := p
  obtain ⟨c, d⟩ := q
  show ((a == c) && (PyData.eqv (od b) (od d) && true)) = _
  rw [od_eqv, Bool.and_true, Bool.eq_iff_iff]
  simp
theorem all_eqv : ∀ l m : List Pr, PyData.eqvAll (l.map prD) (m.map prD) = decide (l = m)
  | [], [] => rfl
  | [], _ :: _ => by simp [PyData.eqvAll]
  | _ :: _, [] => by simp [PyData.eqvAll]
  | p :: r, q :: t => by
    show (PyData.eqv (prD p) (prD q) && PyData.eqvAll (r.map prD) (t.map prD)) = _
    rw [prD_eqv, all_eqv r t, Bool.eq_iff_iff]
    simp
theorem dp_ov {K : PySem.W.Frag} {H : Hp} : ∀ o : Option Int, Dp K H (ov o) (od o)
  | none => .non
  | some i => .int i
theorem dp_all {K : PySem.W.Frag} {H : Hp} : ∀ {vs : List V} {l : List Pr}, PrL H vs l → DpAll K H vs (l.map prD)
  | _, _, .nil => .nil
  | _, _, .cons h r => .cons (dp_tup h (.cons (.int _) (.cons (dp_ov _) .nil))) (dp_all r)
theorem g_eqP {K : PySem.W.Frag} {H : Hp} {s t : Addr} {a b : List Pr} {Q : VK} (ha : Tp H s a) (hb : Tp H t b) (q : Q (.bl (decide (a = b))) H) : rEqD K (.ref s) (.ref t) H Q := by
  obtain ⟨vs, hs, rs⟩ := ha
  obtain ⟨ws, ht, rt⟩ := hb
  exact ⟨.tuple (a.map prD), .tuple (b.map prD), dp_tup hs (dp_all rs), dp_tup ht (dp_all rt), tupD a, tupD b, by
    rw [show PyData.eqv (.tuple (a.map prD)) (.tuple (b.map prD)) = PyData.eqvAll (a.map prD) (b.map prD) from rfl, all_eqv]
    exact q⟩
/-- [(.., ..) for low, high in pairs] -/
theorem g_lcA {K : PySem.W.Frag} {te : TE} {ks : List Nat} {σ : L2.St} {Q : VK} {H : Hp} {a : Addr} {vs : List V} {l : List Pr} {i j : Nat} (f : Pr → Pr) (hT : H a = some (.tup vs)) (hp : PrL H vs l) (hn : l.length ≤ 1000)
    (hb : ∀ p, p ∈ l → ∀ H1 (R : V → Hp → Prop), Up H H1 → (∀ q H2, Up H1 H2 → H2 q = some (.tup [.int (f p).1, ov (f p).2]) → R (.ref q) H2) →
      wipe (((wipe σ ks).set i (some (.int p.1))).set j (some (ov p.2))) ks = wipe σ ks ∧ te (((wipe σ ks).set i (some (.int p.1))).set j (some (ov p.2))) H1 R)
    (q : ∀ D H', H D = none → Up H H' → Lp H' D (l.map f) → Q (.ref D) H') : kLcT K (gTup K 2 (gCons (gName i) (gCons (gName j) gNil))) tYes te ks σ Q (.ref a) H := by
  refine ⟨a, rfl, ⟨vs, SqT.of hT⟩, fun D hD => ?_⟩
  have u0 : Up H (upd H D (.lst [])) := Up.new hD
  have hl := hp.len
  refine lc_tup (K := K) (xs := vs) (fun k H' => Up H H' ∧ ∃ acc, H' D = some (.lst acc) ∧ PrL H' acc ((l.take k).map f)) ⟨u0, [], upd_same, .nil⟩ (fun k H' _ p => SqT.of (p.1 _ _ hT)) (fun k x H' hx p => ?_) fun H' p => ?_
  · obtain ⟨uH, acc, hD', hacc⟩ := p
    obtain ⟨qa, pr, rfl, hlk, hq⟩ := hp.get hx
    obtain ⟨hlt, hget⟩ := List.getElem?_eq_some_iff.mp hlk
    have hm : pr ∈ l := hget ▸ List.getElem_mem hlt
    have etk : l.take (k + 1) = l.take k ++ [pr] := by rw [List.take_add_one, hlk]; rfl
    refine ⟨qa, _, rfl, SqT.of (uH _ _ hq), rfl, _, _, rfl, _, _, rfl, rfl, ?_⟩
    have z := hb pr hm H' (fun y H4 => ∃ acc, H4 D = some (.lst acc) ∧ acc.length < sizeLine ∧ (Up H (upd H4 D (.lst (acc ++ [y]))) ∧ ∃ acc', upd H4 D (.lst (acc ++ [y])) D = some (.lst acc') ∧ PrL (upd H4 D (.lst (acc ++ [y]))) acc' ((l.take (k + 1)).map f))) uH (fun q H2 u2 hq2 => ?_)
    · exact ⟨z.1, g_tYes z.2⟩
    · have hD2 := u2 _ _ hD'
      refine ⟨acc, hD2, line1000 ?_, Up.setF (uH.trans u2) hD, _, upd_same, ?_⟩
      · rw [hacc.len, List.length_map, List.length_take]; omega
      · rw [etk, List.map_append]
        exact ((hacc.up u2).append (PrL.cons hq2 .nil)).setL hD2
  · obtain ⟨uH, acc, hD', hacc⟩ := p
    rw [hl, List.take_length] at hacc
    exact q D H' hD uH ⟨acc, hD', hacc⟩
theorem com_empty {a b : List Pr} (ok : ∀ p, p ∈ com a b → Ok p) : com a b = [] ↔ ∀ x, ¬ sem (com a b) x := by
  constructor
  · intro e x h
    rw [e] at h
    exact ST.sem_nil.mp h
  · intro h
    cases e : com a b with
    | nil => rfl
    | cons p r =>
      rw [e] at h ok
      exact absurd ⟨p, List.mem_cons_self, ST.in_low (ok p List.mem_cons_self)⟩ (h p.1)
end AF
/-! own membership, lists turned round, comprehensions whose tests make new objects, lists of numbers compared *-/
namespace AF
open PySem PySem.Spec PyProof.Rows L2
open ST (Pr Ok sem Canon com gp early plus spr saB en res sumc Ended)
/-- an own __contains__ -/
structure CoO (K : PySem.W.Frag) (C f : Addr) : Prop where
  at_ : PySem.W.findIn K (.ref C) "__contains__" = some (some (.ref f))
  fn : PySem.W.isFn K (.ref f) = true
def rInO (C : Addr) (sp : Sp) (E : XK) : R2 := fun x y H Q => ∃ a dx fs, y = .ref a ∧ H a = some (.ins C dx fs) ∧ sp [.ref a, x] H (fun z H' => ∃ b, z = .bl b ∧ Q (.bl b) H') E
theorem op_inO {X : Cx} {k : Nat} {f C : Addr} {ps : List Str} {sp : Sp} {E : XK} (D : Dn X.prog X.w X.K X.mg X.base k f ps sp) (B : CoO X.K C f) (hr : Room k X.A) (hx : Passes (L2.CX X.prog X.w) X E) : OpR X (compareOp .In) (rInO C sp E) := by
  intro pins s σ H x y v u Q I rx ry h
  obtain ⟨a, dx, fs, rfl, ha, q⟩ := h
  cases ry
  obtain ⟨fd, F, b⟩ := D.ex
  obtain ⟨mA, J, _⟩ := ins_get I.hok ha
  obtain ⟨od, J, _⟩ := J.look
  obtain ⟨m, hF⟩ := I.fr
  refine PySem.W.in_K hF I.ok.mod.kin J B.at_ B.fn ?_
  refine thn (run_fn (us := [.ref a, v]) (vs := [.ref a, x]) F hr b .nil hx I (.cons rfl (.cons rx .nil)) q) fun r s' z => ?_
  obtain ⟨z', H', I', rz, c, ec, qz⟩ := z
  subst ec
  cases rz
  exact wpAny_truthy_bool ⟨.bl c, H', I', rfl, qz⟩
theorem op_inOK {X : Cx} {P : Program} {w : World} {K : PySem.W.Frag} {mg : Str → Option Value} {base : Heap} {k : Nat} {f C : Addr} {ps : List Str} {sp : Sp} (D : Dn P w K mg base k f ps sp) (B : CoO K C f) (hr : Room k X.A) (h1 : X.prog = P := by rfl) (h2 : X.w = w := by rfl) (h3 : X.K = K := by rfl) (h4 : X.mg = mg := by rfl) (h5 : X.base = base := by rfl) :
    OpR X (compareOp .In) (rInO C sp E0) := by
  subst h1 h2 h3 h4 h5
  exact op_inO D B hr passL
/-! xs[::-1] -/
def tRev (K : PySem.W.Frag) (te : TE) (ts : TO) : TE := fun σ H Q => te σ H fun x H1 => ts σ H1 fun i H2 => i = some (-1) ∧ ∃ a xs, x = .ref a ∧ SqL K H2 a xs ∧ ∀ p, H2 p = none → Q (.ref p) (upd H2 p (.lst xs.reverse))
theorem pe_rev {X : Cx} {e st : Expr} {te : TE} {ts : TO} {p2 pos : Pos} (he : PE X e te) (hs : PO X (some st) ts) : PE X (.Subscript e (.Slice none none (some st) p2) pos) (tRev X.K te ts) := by
  refine ⟨fun pins s σ H Q I h => ?_⟩
  refine Subscript_ (thn (he.run pins s σ H _ I h) fun v s1 ⟨x, H1, I1, r1, q1⟩ => ?_)
  refine wpAny_Slice ?_
  rw [evalPart_none]
  refine wpAny_pure (wpAny_pure ?_)
  refine thn (hs.run pins s1 σ H1 _ I1 q1) fun vs s2 ⟨i, H2, I2, ps, q2⟩ => ?_
  obtain ⟨rfl, a, xs, rfl, hx, q⟩ := q2
  have I4 : Inv X pins σ H2 { s2 with heap := s2.heap.push { cls := .type "slice", data := .fields #[.none, .none, vs] } } := I2.kept (t' := s2.toks) fun b ob q => Heap.get?_push_of_some _ q
  cases r1
  obtain ⟨its, r, ht, hz⟩ := I4.list hx
  have hlen := r.length
  show wpAny (model X.prog X.w) X.A (subscriptTail e (.Slice none none (some st) p2) (.ref a) (.ref s2.heap.objs.size)) (EP X pins σ Q) X.xe { s2 with heap := s2.heap.push { cls := .type "slice", data := .fields #[.none, .none, vs] } }
  refine tail_any (ops := [.ref a, .ref s2.heap.objs.size]) ht.isList.typeIs slot_list_getitem.lookup (wpAny_getItem_list_slice ht.isList (Heap.IsSliceOf.new ..) .none .none ps (by decide) ?_ (by rw [List.size_toArray] <;> omega)) (by with_unfolding_all rfl)
  rw [PySem.W.krv_pick]
  refine ⟨.ref _, _, I4.laid (t' := s2.toks) (o := .lst xs.reverse) (fun b ob q => Heap.get?_push_of_some _ q) (Nat.le_refl _) ?_, rfl, q _ ?_⟩
  · exact ⟨by rw [List.length_reverse]; omega, _, 0, r.reverse, Heap.get?_push_size _ rfl⟩
  · exact I4.hok.fresh (Nat.le_refl _)

/-! comprehensions whose tests make new objects -/
section
variable {K : PySem.W.Frag} {tt : TT} {te : TE} {ks : List Nat} {σ σ2 : L2.St} {Q : VK} {H : Hp} {a : Addr} {vs : List V} {l : List Pr} {i j : Nat} {ta : TA}
/-- [k for k in range(lo, lo + n) if t(k)] -/
theorem lc_rgU (t : Nat → Bool) {lo : Int} {n : Nat} (hn : n ≤ 1000)
    (hb : ∀ k, k < n → ∀ H1 (R : Bool → Hp → Prop), Up H H1 → (∀ H2, Up H1 H2 → R (t k) H2) → wipe ((wipe σ ks).set i (some (.int (lo + (k : Nat))))) ks = wipe σ ks ∧ tt ((wipe σ ks).set i (some (.int (lo + (k : Nat))))) H1 R)
    (he : ∀ k, k < n → ((wipe σ ks).set i (some (.int (lo + (k : Nat)))))[i]? = some (some (.int (lo + (k : Nat)))))
    (q : ∀ D H', H D = none → Up H H' → H' D = some (.lst (((List.range n).filter t).map fun k => V.int (lo + (k : Nat)))) → Q (.ref D) H') (D : Addr) (hD : H D = none) :
    ∃ W : Nat → Nat → Hp → Prop, (∃ m, W 0 m (upd H D (.lst []))) ∧ ∀ i' m H, W i' m H →
      ((Itr lo n).stop i' H ∧ Q (.ref D) H) ∨ ((Itr lo n).go i' H ∧ ∃ Nx : Hp → Prop, (∀ H', Nx H' → ∃ m', m' < m ∧ W (i' + 1) m' H') ∧ ∀ x H', (Itr lo n).yld i' H x H' → (gName i) x (wipe σ ks) H' fun σ2 H2 => wipe σ2 ks = wipe σ ks ∧ tt σ2 H2 fun b H3 =>
        if b = true then (tVar i) σ2 H3 fun y H4 => ∃ acc, H4 D = some (.lst acc) ∧ acc.length < sizeLine ∧ Nx (upd H4 D (.lst (acc ++ [y]))) else Nx H3) := by
  have u0 : Up H (upd H D (.lst [])) := Up.new hD
  refine lc_range (lo := lo) (n := n) (fun k H' => Up H H' ∧ H' D = some (.lst (((List.range k).filter t).map fun k => V.int (lo + (k : Nat))))) ⟨u0, upd_same⟩ (fun k H' hk p => ?_) fun H' p => q D H' hD p.1 p.2
  obtain ⟨uH, hD'⟩ := p
  show wipe ((wipe σ ks).set i (some (.int (lo + (k : Int))))) ks = wipe σ ks ∧ _
  refine hb k hk H' _ uH fun H2 u2 => ?_
  have er : List.range (k + 1) = List.range k ++ [k] := List.range_succ
  have hD2 := u2 _ _ hD'
  cases ht : t k with
  | true =>
    rw [if_pos rfl]
    refine ⟨_, he k hk, _, hD2, line1000 ?_, ?_, ?_⟩
    · rw [List.length_map]
      exact Nat.le_trans (List.length_filter_le _ _) (by rw [List.length_range]; omega)
    · exact Up.setF (uH.trans u2) hD
    · rw [upd_same, er, List.filter_append]
      simp [ht]
  | false =>
    rw [if_neg (by decide)]
    refine ⟨uH.trans u2, ?_⟩
    rw [hD2, er, List.filter_append]
    simp [ht]
theorem g_lcRgU (t : Nat → Bool) {n : Nat} (hn : n ≤ 1000)
    (hb : ∀ k, k < n → ∀ H1 (R : Bool → Hp → Prop), Up H H1 → (∀ H2, Up H1 H2 → R (t k) H2) → wipe ((wipe σ ks).set i (some (.int (k : Nat)))) ks = wipe σ ks ∧ tt ((wipe σ ks).set i (some (.int (k : Nat)))) H1 R)
    (he : ∀ k, k < n → ((wipe σ ks).set i (some (.int (k : Nat))))[i]? = some (some (.int (k : Nat))))
    (q : ∀ D H', H D = none → Up H H' → H' D = some (.lst (((List.range n).filter t).map fun k => V.int (k : Nat))) → Q (.ref D) H') : kLcRg (gName i) tt (tVar i) ks σ Q (n : Int) H := by
  intro D hD
  rw [Int.toNat_natCast]
  have z : ∀ k : Nat, (0 : Int) + (k : Nat) = (k : Nat) := fun k => Int.zero_add _
  exact lc_rgU (lo := 0) t hn (fun k hk => by rw [z]; exact hb k hk) (fun k hk => by rw [z]; exact he k hk) (fun D H' hD u h => q D H' hD u (by rw [h]; congr 2; exact List.map_congr_left fun k _ => by rw [z])) D hD
def kLcRg2 (g : TG) (tt : TT) (te : TE) (ks : List Nat) (σ : L2.St) (Q : VK) (lo hi : Int) (H1 : Hp) : Prop := ∀ D, H1 D = none → ∃ W : Nat → Nat → Hp → Prop, (∃ m, W 0 m (upd H1 D (.lst []))) ∧ ∀ i m H, W i m H →
  ((Itr lo (hi - lo).toNat).stop i H ∧ Q (.ref D) H) ∨ ((Itr lo (hi - lo).toNat).go i H ∧ ∃ Nx : Hp → Prop, (∀ H', Nx H' → ∃ m', m' < m ∧ W (i + 1) m' H') ∧ ∀ x H', (Itr lo (hi - lo).toNat).yld i H x H' → g x (wipe σ ks) H' fun σ2 H2 => wipe σ2 ks = wipe σ ks ∧ tt σ2 H2 fun b H3 =>
    if b = true then te σ2 H3 fun y H4 => ∃ acc, H4 D = some (.lst acc) ∧ acc.length < sizeLine ∧ Nx (upd H4 D (.lst (acc ++ [y]))) else Nx H3)
instance {g : TG} : Step (tLc (iRng2 ta) g tt te ks σ H Q) (ta σ H (kR2 (kLcRg2 g tt te ks σ Q))) := ⟨fun h => h⟩
theorem g_lcRg2 (t : Nat → Bool) {lo hi : Int} {n : Nat} (en : (hi - lo).toNat = n) (hn : n ≤ 1000)
    (hb : ∀ k, k < n → ∀ H1 (R : Bool → Hp → Prop), Up H H1 → (∀ H2, Up H1 H2 → R (t k) H2) → wipe ((wipe σ ks).set i (some (.int (lo + (k : Nat))))) ks = wipe σ ks ∧ tt ((wipe σ ks).set i (some (.int (lo + (k : Nat))))) H1 R)
    (he : ∀ k, k < n → ((wipe σ ks).set i (some (.int (lo + (k : Nat)))))[i]? = some (some (.int (lo + (k : Nat)))))
    (q : ∀ D H', H D = none → Up H H' → H' D = some (.lst (((List.range n).filter t).map fun k => V.int (lo + (k : Nat)))) → Q (.ref D) H') : kLcRg2 (gName i) tt (tVar i) ks σ Q lo hi H := by
  intro D hD
  rw [en]
  exact lc_rgU t hn hb he q D hD
/-- [n for n in numbers if t(n)] -/
theorem g_lcI (t : Int → Bool) {ns : List Int} (hT : H a = some (.lst (ns.map V.int))) (hn : ns.length ≤ 1000)
    (hb : ∀ k, k ∈ ns → ∀ H1 (R : Bool → Hp → Prop), Up H H1 → (∀ H2, Up H1 H2 → R (t k) H2) → wipe ((wipe σ ks).set i (some (.int k))) ks = wipe σ ks ∧ tt ((wipe σ ks).set i (some (.int k))) H1 R)
    (he : ∀ k : Int, ((wipe σ ks).set i (some (.int k)))[i]? = some (some (.int k)))
    (q : ∀ D H', H D = none → Up H H' → H' D = some (.lst ((ns.filter t).map V.int)) → Q (.ref D) H') : kLcL K (gName i) tt (tVar i) ks σ Q (.ref a) H := by
  refine ⟨a, rfl, ⟨_, SqL.of hT⟩, fun D hD => ?_⟩
  have u0 : Up H (upd H D (.lst [])) := Up.new hD
  refine lc_list (K := K) (xs := ns.map V.int) (fun k H' => Up H H' ∧ H' D = some (.lst (((ns.take k).filter t).map V.int))) ⟨u0, upd_same⟩ (fun k H' _ p => SqL.of (p.1 _ _ hT)) (fun k x H' hx p => ?_) fun H' p => ?_
  · obtain ⟨uH, hD'⟩ := p
    rw [List.getElem?_map] at hx
    cases e : ns[k]? with
    | none => rw [e] at hx; cases hx
    | some z =>
      rw [e] at hx
      cases hx
      have etk : ns.take (k + 1) = ns.take k ++ [z] := by rw [List.take_add_one, e]; rfl
      refine hb z (List.mem_of_getElem? e) H' _ uH fun H2 u2 => ?_
      have hD2 := u2 _ _ hD'
      cases ht : t z with
      | true =>
        rw [if_pos rfl]
        refine ⟨_, he z, _, hD2, line1000 ?_, Up.setF (uH.trans u2) hD, ?_⟩
        · rw [List.length_map]
          exact Nat.le_trans (List.length_filter_le _ _) (by rw [List.length_take]; omega)
        · rw [upd_same, etk, List.filter_append]
          simp [ht]
      | false =>
        rw [if_neg (by decide)]
        refine ⟨uH.trans u2, ?_⟩
        rw [hD2, etk, List.filter_append]
        simp [ht]
  · obtain ⟨uH, hD'⟩ := p
    rw [List.length_map, List.take_length] at hD'
    exact q D H' hD uH hD'
/-- [c for low, high in a list of pairs if t(low, high)], c plain -/
theorem g_lcPL (f : Pr → Option V) (hT : H a = some (.lst vs)) (hp : PrL H vs l) (hn : l.length ≤ 1000)
    (hb : ∀ p, p ∈ l → ∀ H1 (R : V → Hp → Prop) (N : Hp → Prop), Up H H1 → (∀ y, f p = some y → R y H1) → (f p = none → N H1) →
      wipe (((wipe σ ks).set i (some (.int p.1))).set j (some (ov p.2))) ks = wipe σ ks ∧ tt (((wipe σ ks).set i (some (.int p.1))).set j (some (ov p.2))) H1 fun b H3 => if b = true then te (((wipe σ ks).set i (some (.int p.1))).set j (some (ov p.2))) H3 R else N H3)
    (q : ∀ D H', H D = none → Up H H' → H' D = some (.lst (l.filterMap f)) → Q (.ref D) H') : kLcL K (gTup K 2 (gCons (gName i) (gCons (gName j) gNil))) tt te ks σ Q (.ref a) H := by
  refine ⟨a, rfl, ⟨vs, SqL.of hT⟩, fun D hD => ?_⟩
  have u0 : Up H (upd H D (.lst [])) := Up.new hD
  have hl := hp.len
  refine lc_list (K := K) (xs := vs) (fun k H' => Up H H' ∧ H' D = some (.lst ((l.take k).filterMap f))) ⟨u0, upd_same⟩ (fun k H' _ p => SqL.of (p.1 _ _ hT)) (fun k x H' hx p => ?_) fun H' p => ?_
  · obtain ⟨uH, hD'⟩ := p
    obtain ⟨qa, pr, rfl, hlk, hq⟩ := hp.get hx
    obtain ⟨hlt, hget⟩ := List.getElem?_eq_some_iff.mp hlk
    have hm : pr ∈ l := hget ▸ List.getElem_mem hlt
    have etk : l.take (k + 1) = l.take k ++ [pr] := by rw [List.take_add_one, hlk]; rfl
    refine ⟨qa, _, rfl, SqT.of (uH _ _ hq), rfl, _, _, rfl, _, _, rfl, rfl, ?_⟩
    refine hb pr hm H' _ _ uH (fun y hy => ?_) fun hy => ?_
    · refine ⟨_, hD', line1000 (Nat.le_trans (List.length_filterMap_le _ _) (by rw [List.length_take]; omega)), Up.setF uH hD, ?_⟩
      rw [upd_same, etk, List.filterMap_append]
      simp [hy]
    · refine ⟨uH, ?_⟩
      rw [hD', etk, List.filterMap_append]
      simp [hy]
  · obtain ⟨uH, hD'⟩ := p
    refine q D H' hD uH ?_
    rw [hD', hl, List.take_length]
/-- [pair for pair in pairs if t(pair)] -/
theorem g_lcPN (t : Pr → Bool) (hT : H a = some (.lst vs)) (hp : PrL H vs l) (hn : l.length ≤ 1000)
    (hb : ∀ p q, p ∈ l → ∀ H1 (R : Bool → Hp → Prop), Up H H1 → H1 q = some (.tup [.int p.1, ov p.2]) → R (t p) H1 → wipe ((wipe σ ks).set i (some (.ref q))) ks = wipe σ ks ∧ tt ((wipe σ ks).set i (some (.ref q))) H1 R)
    (he : ∀ k : Addr, ((wipe σ ks).set i (some (.ref k)))[i]? = some (some (.ref k)))
    (q : ∀ D H', H D = none → Up H H' → Lp H' D (l.filter t) → Q (.ref D) H') : kLcL K (gName i) tt (tVar i) ks σ Q (.ref a) H := by
  refine ⟨a, rfl, ⟨_, SqL.of hT⟩, fun D hD => ?_⟩
  have u0 : Up H (upd H D (.lst [])) := Up.new hD
  have hl := hp.len
  refine lc_list (K := K) (xs := vs) (fun k H' => Up H H' ∧ ∃ acc, H' D = some (.lst acc) ∧ PrL H' acc ((l.take k).filter t)) ⟨u0, [], upd_same, .nil⟩ (fun k H' _ p => SqL.of (p.1 _ _ hT)) (fun k x H' hx p => ?_) fun H' p => ?_
  · obtain ⟨uH, acc, hD', hacc⟩ := p
    obtain ⟨qa, pr, rfl, hlk, hq⟩ := hp.get hx
    obtain ⟨hlt, hget⟩ := List.getElem?_eq_some_iff.mp hlk
    have hm : pr ∈ l := hget ▸ List.getElem_mem hlt
    have etk : l.take (k + 1) = l.take k ++ [pr] := by rw [List.take_add_one, hlk]; rfl
    have hq' := uH _ _ hq
    refine hb pr qa hm H' _ uH hq' ?_
    cases ht : t pr with
    | true =>
      rw [if_pos rfl]
      refine ⟨_, he qa, acc, hD', line1000 ?_, Up.setF uH hD, _, upd_same, ?_⟩
      · rw [hacc.len]
        exact Nat.le_trans (List.length_filter_le _ _) (by rw [List.length_take]; omega)
      · rw [etk, List.filter_append, show List.filter t [pr] = [pr] by simp [ht]]
        exact (hacc.append (PrL.cons hq' .nil)).setL hD'
    | false =>
      rw [if_neg (by decide)]
      refine ⟨uH, acc, hD', ?_⟩
      rw [etk, List.filter_append, show List.filter t [pr] = [] by simp [ht], List.append_nil]
      exact hacc
  · obtain ⟨uH, acc, hD', hacc⟩ := p
    rw [hl, List.take_length] at hacc
    exact q D H' hD uH ⟨acc, hD', hacc⟩
end
/-! lists of numbers compared -/
theorem int_can : ∀ l : List Int, PyData.canLayAll0 (l.map PyData.int) = true
  | [] => rfl
  | p :: r => by
    show ((PyData.int p).canLay0 && PyData.canLayAll0 (r.map PyData.int)) = true
    rw [int_can r]; rfl
theorem int_dep : ∀ l : List Int, PyData.depthAll (l.map PyData.int) ≤ 0
  | [] => Nat.zero_le _
  | p :: r => by
    show max (PyData.int p).depth (PyData.depthAll (r.map PyData.int)) ≤ 0
    have := int_dep r
    have e : (PyData.int p).depth = 0 := rfl
    omega
theorem lstI (l : List Int) : SeqAt.shaped (.list (l.map PyData.int)) = true := by
  show ((PyData.list (l.map PyData.int)).canLay0 && decide ((PyData.list (l.map PyData.int)).depth ≤ 64)) = true
  have h1 : (PyData.list (l.map PyData.int)).canLay0 = true := int_can l
  have h2 : (PyData.list (l.map PyData.int)).depth ≤ 64 := by
    have := int_dep l
    show PyData.depthAll (l.map PyData.int) + 1 ≤ 64
    omega
  rw [h1, decide_eq_true h2]; rfl
theorem int_eqv : ∀ l m : List Int, PyData.eqvAll (l.map PyData.int) (m.map PyData.int) = decide (l = m)
  | [], [] => rfl
  | [], _ :: _ => by simp [PyData.eqvAll]
  | _ :: _, [] => by simp [PyData.eqvAll]
  | p :: r, q :: t => by
    show ((p == q) && PyData.eqvAll (r.map PyData.int) (t.map PyData.int)) = _
    rw [int_eqv r t, Bool.eq_iff_iff]
    simp
theorem dp_ints {K : PySem.W.Frag} {H : Hp} : ∀ l : List Int, DpAll K H (l.map V.int) (l.map PyData.int)
  | [] => .nil
  | i :: r => .cons (.int i) (dp_ints r)
theorem g_eqIs {K : PySem.W.Frag} {H : Hp} {s t : Addr} {a b : List Int} {Q : VK} (ha : H s = some (.lst (a.map V.int))) (hb : H t = some (.lst (b.map V.int))) (q : Q (.bl (decide (a = b))) H) : rEqD K (.ref s) (.ref t) H Q :=
  ⟨.list (a.map PyData.int), .list (b.map PyData.int), dp_lst ha (dp_ints a), dp_lst hb (dp_ints b), lstI a, lstI b, by
    rw [show PyData.eqv (.list (a.map PyData.int)) (.list (b.map PyData.int)) = PyData.eqvAll (a.map PyData.int) (b.map PyData.int) from rfl, int_eqv]
    exact q⟩
theorem g_neIs {K : PySem.W.Frag} {H : Hp} {s t : Addr} {a b : List Int} {Q : VK} (ha : H s = some (.lst (a.map V.int))) (hb : H t = some (.lst (b.map V.int))) (q : Q (.bl (!decide (a = b))) H) : rNeD K (.ref s) (.ref t) H Q :=
  ⟨.list (a.map PyData.int), .list (b.map PyData.int), dp_lst ha (dp_ints a), dp_lst hb (dp_ints b), lstI a, lstI b, by
    rw [show PyData.eqv (.list (a.map PyData.int)) (.list (b.map PyData.int)) = PyData.eqvAll (a.map PyData.int) (b.map PyData.int) from rfl, int_eqv]
    exact q⟩
theorem lstP (l : List Pr) : SeqAt.shaped (.list (l.map prD)) = true := by
  show ((PyData.list (l.map prD)).canLay0 && decide ((PyData.list (l.map prD)).depth ≤ 64)) = true
  have h1 : (PyData.list (l.map prD)).canLay0 = true := all_can l
  have h2 : (PyData.list (l.map prD)).depth ≤ 64 := by
    have := all_dep l
    show PyData.depthAll (l.map prD) + 1 ≤ 64
    omega
  rw [h1, decide_eq_true h2]; rfl
theorem g_eqLp {K : PySem.W.Frag} {H : Hp} {s t : Addr} {a b : List Pr} {Q : VK} (ha : Lp H s a) (hb : Lp H t b) (q : Q (.bl (decide (a = b))) H) : rEqD K (.ref s) (.ref t) H Q := by
  obtain ⟨vs, hs, rs⟩ := ha
  obtain ⟨ws, ht, rt⟩ := hb
  exact ⟨.list (a.map prD), .list (b.map prD), dp_lst hs (dp_all rs), dp_lst ht (dp_all rt), lstP a, lstP b, by
    rw [show PyData.eqv (.list (a.map prD)) (.list (b.map prD)) = PyData.eqvAll (a.map prD) (b.map prD) from rfl, all_eqv]
    exact q⟩
/-! rules within a block: the facts' K by name -/
section
variable {X : Cx} {K : PySem.W.Frag} {tg l : Expr} {tl : TE}
theorem pi_listK (hl : PE X l tl) (hK : X.K = K := by rfl) : PI X tg l (iList K tl) := hK ▸ pi_list hl
theorem op_eqDK (hu : X.A.units + 64 < cLine) (hK : X.K = K := by rfl) : OpR X (compareOp .Eq) (rEqD K) := hK ▸ op_eqD hu
theorem op_neDK (hu : X.A.units + 64 < cLine) (hK : X.K = K := by rfl) : OpR X (compareOp .NotEq) (rNeD K) := hK ▸ op_neD hu
theorem op_notIn_seqK (hK : X.K = K := by rfl) : OpR X (compareOp .NotIn) (rIn K true) := hK ▸ op_notIn_seq
end
theorem g_any {K : PySem.W.Frag} {a : Addr} {H : Hp} {Q : VK} {bs : List Bool} (h : SqL K H a (bs.map V.bl)) (q : Q (.bl (bs.any id)) H) : rAny K [.ref a] H Q := ⟨a, bs, rfl, h, q⟩
end AF
/-! classes made by keywords; dict comprehensions over a tuple; a comprehension over texts *-/
namespace AF
open PySem PySem.Spec PyProof.Rows L2
/-- a class whose __init__ takes keywords alone -/
structure Mw (P : Program) (w : World) (K : PySem.W.Frag) (mg : Str → Option Value) (base : Heap) (k : Nat) (C : Addr) (ks : List Str) (gV : List V → List V → List V) (sp : Sp) : Prop where
  ex : ∃ f fd ps, ∃ g : List Value → List Value → List Value, FnOk P w K mg base (L2.CX P w) k f fd ps sp ∧ Mk K C f ∧ KBn K fd ps 1 ks g gV
section
variable {X : Cx} {k : Nat} {C : Addr} {ks : List Str} {sp : Sp} {E : XK} {x : Str} {p pos : Pos} {kws : List Keyword} {tk : TA} {gV : List V → List V → List V}
def tMw (C : Addr) (m : Nat) (sp : Sp) (gV : List V → List V → List V) (E : XK) (tk : TA) : TE := fun σ H Q => tk σ H fun zs H2 => zs.length = m ∧ ∀ x dx, H2 x = none → H2 dx = none → dx ≠ x →
  sp (gV [.ref x] zs) (upd (upd H2 dx (.own x)) x (.ins C dx [])) (fun v H3 => v = .non ∧ Q (.ref x) H3) E
theorem pe_mw (D : Mw X.prog X.w X.K X.mg X.base k C ks gV sp) (hr : Room (k + 1) X.A) (hg : Gl X x) (hm : X.mg x = some (.ref C)) (hx : Passes (L2.CX X.prog X.w) X E) (hkw : PK X kws tk)
    (hall : (backToKw pos (keywordEach kws X.env)).all (·.1.isSome) = true := by rfl) (hks : (backToKw pos (keywordEach kws X.env)).filterMap (·.1) = ks := by rfl) (hdb : (x == ("__debug__" : Str)) = false := by decide)
    (hpl : ((backTo pos (starEach [] X.env)).any (·.1) || (backToKw pos (keywordEach kws X.env)).any (·.1.isNone)) = false := by rfl) :
    PE X (.Call (.Name x p) [] kws pos) (tMw C ks.length sp gV E tk) := by
  obtain ⟨f, fd, ps, g, F, M, hb⟩ := D.ex
  have z := pe_makeK0 (pos := pos) (p := p) M F hr hg hm hb hx hkw hall hks hdb hpl
  exact ⟨fun pins s σ H Q I h => z.run pins s σ H Q I (show tMakeK C 0 ks.length sp gV E tNil tk σ H Q from by
    show tk σ H _
    refine cast ?_ h
    unfold tMw
    congr 1
    funext zs H2
    simp)⟩
end
def kMw (C : Addr) (m : Nat) (sp : Sp) (gV : List V → List V → List V) (E : XK) (Q : VK) (zs : List V) (H2 : Hp) : Prop := zs.length = m ∧ ∀ x dx, H2 x = none → H2 dx = none → dx ≠ x →
  sp (gV [.ref x] zs) (upd (upd H2 dx (.own x)) x (.ins C dx [])) (fun v H3 => v = .non ∧ Q (.ref x) H3) E
instance {C : Addr} {m : Nat} {sp : Sp} {gV : List V → List V → List V} {E : XK} {tk : TA} {σ : L2.St} {H : Hp} {Q : VK} : Step (tMw C m sp gV E tk σ H Q) (tk σ H (kMw C m sp gV E Q)) := ⟨fun h => h⟩
/-- {mark: .. for mark in t}, t a tuple that is written -/
def kDcT (K : PySem.W.Frag) (g : TG) (tt : TT) (tk tv : TE) (vs : List Nat) (σ : L2.St) (Q : VK) (x : V) (H1 : Hp) : Prop := ∃ a, x = .ref a ∧ (∃ xs, SqT K H1 a xs) ∧ ∀ D, H1 D = none → ∃ W : Nat → Nat → Hp → Prop, (∃ m, W 0 m (upd H1 D (.dK []))) ∧ ∀ i m H, W i m H →
  ((Itt K a).stop i H ∧ Q (.ref D) H) ∨ ((Itt K a).go i H ∧ ∃ Nx : Hp → Prop, (∀ H', Nx H' → ∃ m', m' < m ∧ W (i + 1) m' H') ∧ ∀ x H', (Itt K a).yld i H x H' → g x (wipe σ vs) H' fun σ2 H2 => wipe σ2 vs = wipe σ vs ∧ tt σ2 H2 fun b H3 =>
    if b = true then tk σ2 H3 fun y H4 => tv σ2 H4 fun z H5 => ∃ kvs k, y = kV k ∧ H5 D = some (.dK kvs) ∧ kvs.length < sizeLine ∧ Nx (upd H5 D (.dK (putK kvs k z))) else Nx H3)
instance {K : PySem.W.Frag} {g : TG} {tt : TT} {tk tv td : TE} {vs : List Nat} {σ : L2.St} {H : Hp} {Q : VK} : Step (tDc (iTup K td) g tt tk tv vs σ H Q) (td σ H (kDcT K g tt tk tv vs σ Q)) := ⟨fun h => h⟩
section
variable {K : PySem.W.Frag} {tt : TT} {te tk tv : TE} {ks : List Nat} {σ σ2 : L2.St} {Q : VK} {H : Hp} {a : Addr} {vs : List V} {i j : Nat} {ls : List Str}
/-- .. whatever is told -/
theorem tYes_if {σ : L2.St} {H : Hp} {A B : Hp → Prop} (h : A H) : tYes σ H fun b H3 => if b = true then A H3 else B H3 := by
  show if (true : Bool) = true then A H else B H
  rw [if_pos rfl]
  exact h
theorem putK_len {kvs : List (Key × V)} {k : Key} {v : V} : (putK kvs k v).length ≤ kvs.length + 1 := by
  unfold putK
  split
  · rw [List.length_map]; omega
  · rw [List.length_append]; exact Nat.le_refl _
theorem g_dcAny (hT : ∀ H', SqT K H' a (ls.map V.str)) (hn : ls.length ≤ 100)
    (hb : ∀ s, s ∈ ls → ∀ H1 (R : V → V → Hp → Prop), Up H H1 → (∀ z, R (.str s) z H1) → wipe ((wipe σ ks).set i (some (.str s))) ks = wipe σ ks ∧ tk ((wipe σ ks).set i (some (.str s))) H1 fun y H4 => tv ((wipe σ ks).set i (some (.str s))) H4 fun z H5 => R y z H5)
    (q : ∀ D H', H D = none → Up H H' → Q (.ref D) H') : kDcT K (gName i) tYes tk tv ks σ Q (.ref a) H := by
  refine ⟨a, rfl, ⟨_, hT H⟩, fun D hD => ?_⟩
  have u0 : Up H (upd H D (.dK [])) := Up.new hD
  refine dc_tup (K := K) (xs := ls.map V.str) (fun k H' => Up H H' ∧ ∃ kvs, H' D = some (.dK kvs) ∧ kvs.length ≤ k ∧ k ≤ ls.length) ⟨u0, [], upd_same, Nat.zero_le _, Nat.zero_le _⟩ (fun k H' _ p => hT H') (fun k x H' hx p => ?_) fun H' p => q D H' hD p.1
  obtain ⟨uH, kvs, hD', hk, hkl⟩ := p
  rw [List.getElem?_map] at hx
  cases e : ls[k]? with
  | none => rw [e] at hx; cases hx
  | some s =>
    rw [e] at hx
    cases hx
    have hlt : k < ls.length := (List.getElem?_eq_some_iff.mp e).1
    have z := hb s (List.mem_of_getElem? e) H' (fun y z H5 => ∃ kvs k', y = kV k' ∧ H5 D = some (.dK kvs) ∧ kvs.length < sizeLine ∧ (Up H (upd H5 D (.dK (putK kvs k' z))) ∧ ∃ kvs', upd H5 D (.dK (putK kvs k' z)) D = some (.dK kvs') ∧ kvs'.length ≤ k + 1 ∧ k + 1 ≤ ls.length)) uH (fun z => ?_)
    · refine ⟨z.1, ?_⟩
      exact tYes_if z.2
    · refine ⟨kvs, .inr s, rfl, hD', line1000 (by omega), Up.setF uH hD, _, upd_same, ?_, hlt⟩
      have := putK_len (kvs := kvs) (k := .inr s) (v := z)
      omega
/-- [t(mark) for mark in texts] *-/
theorem g_lcS (f : Str → V) (hT : H a = some (.tup (ls.map V.str))) (hn : ls.length ≤ 100)
    (hb : ∀ s, s ∈ ls → ∀ H1 (R : V → Hp → Prop), Up H H1 → R (f s) H1 → wipe ((wipe σ ks).set i (some (.str s))) ks = wipe σ ks ∧ te ((wipe σ ks).set i (some (.str s))) H1 R)
    (q : ∀ D H', H D = none → Up H H' → H' D = some (.lst (ls.map f)) → Q (.ref D) H') : kLcT K (gName i) tYes te ks σ Q (.ref a) H := by
  refine ⟨a, rfl, ⟨_, SqT.of hT⟩, fun D hD => ?_⟩
  have u0 : Up H (upd H D (.lst [])) := Up.new hD
  refine lc_tup (K := K) (xs := ls.map V.str) (fun k H' => Up H H' ∧ H' D = some (.lst ((ls.take k).map f))) ⟨u0, upd_same⟩ (fun k H' _ p => SqT.of (p.1 _ _ hT)) (fun k x H' hx p => ?_) fun H' p => ?_
  · obtain ⟨uH, hD'⟩ := p
    rw [List.getElem?_map] at hx
    cases e : ls[k]? with
    | none => rw [e] at hx; cases hx
    | some s =>
      rw [e] at hx
      cases hx
      have etk : ls.take (k + 1) = ls.take k ++ [s] := by rw [List.take_add_one, e]; rfl
      have z := hb s (List.mem_of_getElem? e) H' (fun y H4 => ∃ acc, H4 D = some (.lst acc) ∧ acc.length < sizeLine ∧ (Up H (upd H4 D (.lst (acc ++ [y]))) ∧ upd H4 D (.lst (acc ++ [y])) D = some (.lst ((ls.take (k + 1)).map f)))) uH ⟨_, hD', line1000 (by rw [List.length_map, List.length_take]; omega), Up.setF uH hD, by rw [upd_same, etk, List.map_append]; rfl⟩
      exact ⟨z.1, g_tYes z.2⟩
  · obtain ⟨uH, hD'⟩ := p
    rw [List.length_map, List.take_length] at hD'
    exact q D H' hD uH hD'
/-- [mark for mark in texts if t(mark)] *-/
theorem g_lcSt (t : Str → Bool) (hT : H a = some (.tup (ls.map V.str))) (hn : ls.length ≤ 100)
    (hb : ∀ s, s ∈ ls → ∀ H1 (R : Bool → Hp → Prop), Up H H1 → R (t s) H1 → wipe ((wipe σ ks).set i (some (.str s))) ks = wipe σ ks ∧ tt ((wipe σ ks).set i (some (.str s))) H1 R)
    (he : ∀ s : Str, ((wipe σ ks).set i (some (.str s)))[i]? = some (some (.str s)))
    (q : ∀ D H', H D = none → Up H H' → H' D = some (.lst ((ls.filter t).map V.str)) → Q (.ref D) H') : kLcT K (gName i) tt (tVar i) ks σ Q (.ref a) H := by
  refine ⟨a, rfl, ⟨_, SqT.of hT⟩, fun D hD => ?_⟩
  have u0 : Up H (upd H D (.lst [])) := Up.new hD
  refine lc_tup (K := K) (xs := ls.map V.str) (fun k H' => Up H H' ∧ H' D = some (.lst (((ls.take k).filter t).map V.str))) ⟨u0, upd_same⟩ (fun k H' _ p => SqT.of (p.1 _ _ hT)) (fun k x H' hx p => ?_) fun H' p => ?_
  · obtain ⟨uH, hD'⟩ := p
    rw [List.getElem?_map] at hx
    cases e : ls[k]? with
    | none => rw [e] at hx; cases hx
    | some s =>
      rw [e] at hx
      cases hx
      have etk : ls.take (k + 1) = ls.take k ++ [s] := by rw [List.take_add_one, e]; rfl
      refine hb s (List.mem_of_getElem? e) H' _ uH ?_
      cases ht : t s with
      | true =>
        rw [if_pos rfl]
        refine ⟨_, he s, _, hD', line1000 ?_, Up.setF uH hD, ?_⟩
        · rw [List.length_map]
          exact Nat.le_trans (List.length_filter_le _ _) (by rw [List.length_take]; omega)
        · rw [upd_same, etk, List.filter_append]
          simp [ht]
      | false =>
        rw [if_neg (by decide)]
        refine ⟨uH, ?_⟩
        rw [hD', etk, List.filter_append]
        simp [ht]
  · obtain ⟨uH, hD'⟩ := p
    rw [List.length_map, List.take_length] at hD'
    exact q D H' hD uH hD'
end
theorem inV_strs {i : Str} {ns : List Str} : inV (.str i) (ns.map V.str) = decide (i ∈ ns) := by
  unfold inV
  rw [List.any_map, Bool.eq_iff_iff, List.any_eq_true, decide_eq_true_iff]
  constructor
  · rintro ⟨y, hy, h⟩
    have e : y = i := beq_iff_eq.mp h
    rw [← e]; exact hy
  · intro h
    exact ⟨i, h, beq_iff_eq.mpr rfl⟩
theorem flat_strs (ns : List Str) : (ns.map V.str).all flatV = true := by
  rw [List.all_map, List.all_eq_true]
  intro _ _; rfl
theorem g_inS {K : PySem.W.Frag} {i : Str} {a : Addr} {ns : List Str} {H : Hp} {Q : VK} (h : SqL K H a (ns.map V.str) ∨ SqT K H a (ns.map V.str)) (q : Q (.bl (decide (i ∈ ns))) H) : rIn K false (.str i) (.ref a) H Q :=
  ⟨a, _, rfl, h, rfl, flat_strs ns, by rw [inV_strs]; exact q⟩
theorem g_ninS {K : PySem.W.Frag} {i : Str} {a : Addr} {ns : List Str} {H : Hp} {Q : VK} (h : SqL K H a (ns.map V.str) ∨ SqT K H a (ns.map V.str)) (q : Q (.bl (!decide (i ∈ ns))) H) : rIn K true (.str i) (.ref a) H Q :=
  ⟨a, _, rfl, h, rfl, flat_strs ns, by rw [inV_strs]; exact q⟩
section
variable {X : Cx} {K : PySem.W.Frag} {tg l : Expr} {tl : TE}
theorem pi_tupK (hl : PE X l tl) (hK : X.K = K := by rfl) : PI X tg l (iTup K tl) := hK ▸ pi_tup hl
end
end AF
/-! {**x, **y}; f(**d); def f(self, **d) -/
namespace AF
open PySem PySem.Spec PyProof.Rows
section
variable {prog : Program} {w : World} {KT : Type} [DecidableEq KT] {knd : KeyKind prog w KT} {A : Around} {E : Value → Shared → Prop} {s : Shared}
theorem put_pairs {d : Addr} {cur : List (KT × Value)} {k : KT} {kv v : Value} {Q : Unit → Shared → Prop} (ik : knd.is k kv = true) (D : s.heap.DictOf knd d cur) (z : cur.length ≤ sizeLine)
    (q : ∀ h', h'.DictOf knd d (stored cur k v) → Heap.SameBut d s.heap h' → Q () { s with heap := h' }) : wpAny (model prog w) A (dictPut d (knd.hash k) kv v) Q E s := by
  obtain ⟨ob, ents, eph, gd, cd, dd, kd, pd, nd⟩ := D
  have sz : ents.size ≤ sizeLine := by
    have e1 := pd.length
    rw [Array.length_toList] at e1
    omega
  unfold dictPut
  refine wpAny_bind (wpAny_dictFind_of ik gd dd kd ?_)
  have fi : (ents.findIdx? fun e => knd.is k e.key) = cur.findIdx? fun x => decide (x.1 = k) := by
    have e2 := pd.findIdx k
    rw [← e2]
    cases ents
    simp
  generalize hx : (ents.findIdx? fun e => knd.is k e.key) = r
  rw [hx] at fi
  cases r with
  | some i =>
    have old : (cur.any fun x => decide (x.1 = k)) = true := any_of_findIdx_some fi.symm
    have e3 : stored cur k v = _ := if_pos old
    refine wpAny_updateDict gd dd (q _ ⟨_, _, eph, Heap.get?_update_self _ gd (Obj.isFreed_of_dict (Obj.data_mapDict dd _)), cd.mapDict _, Obj.data_mapDict dd _, kd.modify _ _, ?_, ?_⟩ (Heap.SameBut.update ..))
    · rw [e3]
      have hl : (ents.toList.findIdx? fun e => knd.is k e.key) = some i := by
        rw [← hx]
        cases ents
        simp
      have := pd.modify nd hl v
      cases ents
      simpa using this
    · rw [e3, keys_map_store]
      exact nd
  | none =>
    have new : k ∉ cur.map (·.1) := not_mem_of_findIdx_none fi.symm
    have e4 : ¬ (cur.any fun x => decide (x.1 = k)) = true := fun z => by
      obtain ⟨x, hx1, hx2⟩ := List.any_eq_true.mp z
      exact new (List.mem_map.mpr ⟨x, hx1, of_decide_eq_true hx2⟩)
    have e3 : stored cur k v = _ := if_neg e4
    refine wpAny_updateDictKeys (hz := sz) gd dd (q _ ⟨_, _, eph + 1, Heap.get?_update_self _ gd (Obj.isFreed_of_dict (Obj.data_mapDictKeys dd _)), cd.mapDictKeys _, Obj.data_mapDictKeys dd _, kd.push ik _, ?_, ?_⟩ (Heap.SameBut.update ..))
    · rw [e3]
      have := pd.append ik (knd.hash k) v
      cases ents
      simpa using this
    · rw [e3, List.map_append, List.nodup_append]
      refine ⟨nd, by simp, fun a ha b hb => ?_⟩
      have hb' : b = k := by simpa using hb
      intro e
      exact new (by rw [← hb', ← e]; exact ha)
theorem merge_maps {d o : Addr} {cur more : List (KT × Value)} {u : Bool} {Q : Unit → Shared → Prop} (nr : ∀ k a, knd.is k (.ref a) = false) (ne : d ≠ o) (ns : (o == sysModules) = false) (D : s.heap.DictOf knd d cur) (O : s.heap.DictOf knd o more)
    (z : cur.length + more.length ≤ sizeLine) (fr : u = true → ((cur ++ more).map (·.1)).Nodup)
    (q : ∀ h', h'.DictOf knd d (merged cur more) → h'.DictOf knd o more → Heap.SameBut d s.heap h' → Q () { s with heap := h' }) : wpAny (model prog w) A (mergeMapping d (.ref o) u) Q E s := by
  obtain ⟨oo, eso, epo, go, co, doo, ko, po, no⟩ := id O
  have hlen : more.length = eso.size := by rw [← po.length, Array.length_toList]
  have nd' := fr
  unfold mergeMapping
  refine wpAny_bind (wpAny_isInstance O.typeIs isSubtype_dict_dict ?_)
  rw [if_pos rfl]
  refine wpAny_bind (wpAny_specialOf O.typeIs F.slot_dict_iter.lookup (wpAny_bind (wpAny_pure ?_)))
  have e0 : (some (Value.builtin "dict.__iter__") == some (Value.builtin "dict.__iter__")) = true := beq_self_eq_true _
  rw [e0]
  dsimp only
  rw [if_neg (by rw [ns]; exact Bool.false_ne_true)]
  obtain ⟨od, esd, epd, gd, cd, dd, kd, pd, nd⟩ := id D
  refine wpAny_bind (wpAny_dictEntries gd dd ?_)
  have main : ∀ jp : Sem Unit, jp = (do
      let l ← dictEntries o
      let epoch ← dictEpoch o
      forIn (List.range l.size) PUnit.unit fun i (_ : PUnit) => (do
        let l' ← dictEntries o
        match l'[i]? with
          | some e => do
            holding [e.key, e.val] (if u = true then do
                let f ← dictFind d e.key e.hash
                if f.isSome = true then do
                    rule "dict.merge.duplicate-key"
                    let x ← newExc (Value.type "KeyError") [e.key]
                    let _r ← (raiseNew x : Sem PUnit)
                    dictPut d e.hash e.key e.val
                  else dictPut d e.hash e.key e.val
              else dictPut d e.hash e.key e.val)
            let ep' ← dictEpoch o
            if (ep' != epoch) = true then do
                (unsupported "dict.changed-during-merge" : Sem PUnit)
                pure (ForInStep.yield PUnit.unit)
              else pure (ForInStep.yield PUnit.unit)
          | _ => do
            (unsupported "dict.changed-during-merge" : Sem PUnit)
            pure (ForInStep.yield PUnit.unit) : Sem (ForInStep PUnit))
      pure ()) → wpAny (model prog w) A jp Q E s := by
    intro jp ej
    subst ej
    refine wpAny_bind (wpAny_dictEntries go doo (wpAny_bind (wpAny_dictEpoch go doo (wpAny_bind ?_))))
    let J : List Nat → PUnit → Shared → Prop := fun rest _ s' => ∃ h' i, s' = { s with heap := h' } ∧ rest = (List.range eso.size).drop i ∧ i ≤ eso.size ∧ h'.DictOf knd d (merged cur (more.take i)) ∧ h'.get? o = some oo ∧ Heap.SameBut d s.heap h'
    refine wpAny_forIn_list _ J _ (fun x rest b s' hJ => ?_) (fun b s' hJ => ?_) _ _ ⟨s.heap, 0, rfl, rfl, Nat.zero_le _, by simpa [merged] using D, go, Heap.SameBut.refl _ _⟩
    · obtain ⟨h', i, rfl, hr, hi, hd', go', sb⟩ := hJ
      have lt : i < eso.size := by
        rcases Nat.lt_or_ge i eso.size with h | h
        · exact h
        · rw [List.drop_eq_nil_of_le (by simpa using h)] at hr
          cases hr
      have hx : x = i ∧ rest = (List.range eso.size).drop (i + 1) := by
        rw [List.drop_eq_getElem_cons (by simpa using lt)] at hr
        injection hr with h1 h2
        exact ⟨by simpa using h1, h2⟩
      obtain ⟨ex, er⟩ := hx
      subst ex
      obtain ⟨kv, hkv⟩ : ∃ kv, more[x]? = some kv := ⟨more[x]'(by rw [hlen]; exact lt), List.getElem?_eq_getElem _⟩
      obtain ⟨k, v⟩ := kv
      obtain ⟨ik, iv⟩ := po.get? (e := eso[x]) (by simp [lt]) hkv
      obtain ⟨k2, ik2, hh⟩ := ko eso[x] (Array.getElem_mem lt)
      have ek : k2 = k := knd.inj _ _ _ ik2 ik
      subst ek
      have zz : (merged cur (more.take x)).length ≤ sizeLine := by
        have e1 := merged_length_le cur (more.take x)
        have e2 : (more.take x).length ≤ more.length := by rw [List.length_take]; omega
        omega
      refine wpAny_bind (wpAny_dictEntries go' doo ?_)
      rw [Array.getElem?_eq_getElem lt]
      dsimp only
      rw [hh, iv]
      have put : wpAny (model prog w) A (dictPut d (knd.hash k2) eso[x].key v) (fun _ s2 => wpAny (model prog w) A (do
            let ep' ← dictEpoch o
            if (ep' != epo) = true then do
                (unsupported "dict.changed-during-merge" : Sem PUnit)
                pure (ForInStep.yield PUnit.unit)
              else pure (ForInStep.yield PUnit.unit)) (fun r s'' => match r with | .yield b' => J rest b' s'' | .done b' => False) E s2) E { s with heap := h' } := by
        refine put_pairs ik hd' zz fun h2 hd2 sb2 => ?_
        have go2 : h2.get? o = some oo := (sb2.2 o (Ne.symm ne)).trans go'
        refine wpAny_bind (wpAny_dictEpoch go2 doo ?_)
        rw [if_neg (by simp)]
        exact wpAny_pure ⟨h2, x + 1, rfl, er, lt, by rw [merged_take_succ cur more x (k2, v) hkv]; exact hd2, go2, sb.trans sb2⟩
      refine wpAny_bind (wpAny_holding ?_)
      cases u with
      | false =>
        rw [if_neg Bool.false_ne_true]
        exact wpAny_mono put (fun r s2 h => wpAny_mono h (fun r s3 h2 => by cases r with | yield b' => exact h2 | done b' => exact h2.elim) fun _ _ h => h) fun _ _ h => h
      | true =>
        have nu := fr rfl
        have em : merged cur (more.take x) = cur ++ more.take x := by
          refine merged_append_of_fresh _ _ (List.Nodup.sublist ?_ nu)
          exact List.Sublist.map _ (List.Sublist.append (List.Sublist.refl _) (List.take_sublist _ _))
        have nk : k2 ∉ (merged cur (more.take x)).map (·.1) := by
          rw [em]
          intro hm
          have e5 : cur ++ more = (cur ++ more.take x) ++ ((k2, v) :: more.drop (x + 1)) := by
            rw [List.append_assoc]
            congr 1
            have lt2 : x < more.length := by rw [hlen]; exact lt
            have e6 : more[x]'lt2 = (k2, v) := by
              rw [List.getElem?_eq_getElem lt2] at hkv
              exact Option.some.inj hkv
            rw [← e6, ← List.drop_eq_getElem_cons lt2, List.take_append_drop]
          rw [e5, List.map_append, List.nodup_append] at nu
          exact nu.2.2 _ hm _ (by rw [List.map_cons]; exact List.mem_cons_self) rfl
        obtain ⟨od2, es2, ep2, gd2, cd2, dd2, kd2, pd2, nd2⟩ := id hd'
        rw [if_pos rfl]
        refine wpAny_bind (wpAny_dictFind_of ik gd2 dd2 kd2 ?_)
        have none_ : (es2.findIdx? fun e => knd.is k2 e.key) = none := by
          have e2 := pd2.findIdx k2
          have e7 : (es2.findIdx? fun e => knd.is k2 e.key) = es2.toList.findIdx? fun e => knd.is k2 e.key := by
            cases es2
            simp
          rw [e7, e2, List.findIdx?_eq_none_iff]
          intro y hy
          exact decide_eq_false fun e => nk (List.mem_map.mpr ⟨y, hy, e⟩)
        rw [none_, if_neg (by simp)]
        exact wpAny_mono put (fun r s2 h => wpAny_mono h (fun r s3 h2 => by cases r with | yield b' => exact h2 | done b' => exact h2.elim) fun _ _ h => h) fun _ _ h => h
    · obtain ⟨h', i, rfl, hr, hi, hd', go', sb⟩ := hJ
      have e : i = eso.size := by
        rcases Nat.lt_or_ge i eso.size with h | h
        · rw [List.drop_eq_getElem_cons (by simpa using h)] at hr
          cases hr
        · exact Nat.le_antisymm hi h
      refine wpAny_pure (q h' ?_ ⟨oo, eso, epo, go', co, doo, ko, po, no⟩ sb)
      rw [e, ← hlen, List.take_length] at hd'
      exact hd'
  split
  · refine wpAny_bind (wpAny_dictEntries go doo ?_)
    refine wpAny_bind ?_
    rw [← Array.forIn_toList]
    have loop : ∀ l : List DictEntry, (∀ e, e ∈ l → e ∈ eso) → ∀ (f : DictEntry → PUnit → Sem (ForInStep PUnit)), (∀ e, (∀ a, e.key ≠ .ref a) → f e PUnit.unit = pure (ForInStep.yield PUnit.unit)) →
        ∀ P : PUnit → Shared → Prop, P PUnit.unit s → wpAny (model prog w) A (forIn l PUnit.unit f) P E s := by
      intro l
      induction l with
      | nil =>
        intro _ f hf P p
        rw [List.forIn_nil]
        exact wpAny_pure p
      | cons e l ih =>
        intro hl f hf P p
        rw [List.forIn_cons, hf e (fun a ea => ?_)]
        · refine wpAny_bind (wpAny_pure ?_)
          exact ih (fun x hx => hl x (List.mem_cons_of_mem _ hx)) f hf P p
        · obtain ⟨k', hk', _⟩ := ko e (hl e List.mem_cons_self)
          rw [ea, nr] at hk'
          cases hk'
    refine loop _ (fun e he => by simpa using he) _ (fun e he => ?_) _ (main _ rfl)
    split
    · rename_i a ea
      exact absurd ea (he a)
    · rfl
  · exact main _ rfl
end
end AF
namespace AF
open PySem PySem.Spec PyProof.Rows L2
theorem mix_noref (P : Program) (w : World) (k : Key) (a : Addr) : (mixKind P w).is k (.ref a) = false := by
  cases h : (mixKind P w).is k (.ref a) with
  | false => rfl
  | true =>
    rcases keyIs_shape h with ⟨i, t, _, e⟩ | ⟨x, t, _, e⟩
    · cases e
    · cases e
section
variable {X : Cx} {pins : List (Addr × Obj)} {σ : L2.St} {H : Hp} {s : Shared} {A : Around} {E : Value → Shared → Prop}
/-- one dict's pairs into another one -/
theorem d_into {d o : Addr} {cur more : List (Key × V)} {u : Bool} {Q : Unit → Shared → Prop} (I : Inv X pins σ H s) (ed : H d = some (.dK cur)) (eo : Rd H o (.dK more)) (ne : d ≠ o) (z : cur.length + more.length ≤ sizeLine)
    (fr : u = true → ((cur ++ more).map (·.1)).Nodup) (q : ∀ s', Inv X pins σ (upd H d (.dK (mergeK cur more))) s' → Q () s') : wpAny (model X.prog X.w) A (mergeMapping d (.ref o) u) Q E s := by
  obtain ⟨z1, hd1, vs1, r1, dd1⟩ := dk_of I.hok ed
  obtain ⟨z2, hd2, vs2, r2, dd2⟩ := dk_rd I.hok eo
  have keys : ∀ {kvs : List (Key × V)} {vs : List (Key × Value)}, KV kvs vs → kvs.map (·.1) = vs.map (·.1) := by
    intro kvs vs r
    unfold KV at r
    induction r with
    | nil => rfl
    | @cons p q ps qs h t ih => rw [List.map_cons, List.map_cons, ih, h.1]
  refine merge_maps (mix_noref X.prog X.w) ne hd2 dd1 dd2 (by rw [← r1.length, ← r2.length]; exact z) (fun hu => ?_) fun h' k1 k2 sb => ?_
  · have := fr hu
    rw [List.map_append, keys r1, keys r2, ← List.map_append] at this
    exact this
  · have he : ∃ q, h'.get? d = some q := let ⟨q, _, _, hq, _⟩ := k1; ⟨q, hq⟩
    have hz : (mergeK cur more).length ≤ sizeLine := Nat.le_trans (length_mergeK more cur) z
    exact q _ (d_write (t' := s.toks) I (by rw [ed]; exact True.intro) sb he (dk_new hz hd1 (r2.merge r1) k1))
/-- {**x, **y} -/
def tTwo (t1 t2 : TE) : TE := fun σ H Q => ∀ p, H p = none → t1 σ (upd H p (.dK [])) fun x H1 => ∃ a k1, x = .ref a ∧ Rd H1 a (.dK k1) ∧ p ≠ a ∧ k1.length ≤ sizeLine ∧ H1 p = some (.dK []) ∧
  t2 σ (upd H1 p (.dK (mergeK [] k1))) fun y H2 => ∃ b k2, y = .ref b ∧ Rd H2 b (.dK k2) ∧ p ≠ b ∧ k1.length + k2.length ≤ sizeLine ∧ H2 p = some (.dK (mergeK [] k1)) ∧ Q (.ref p) (upd H2 p (.dK (mergeK (mergeK [] k1) k2)))
theorem pe_two {e1 e2 : Expr} {t1 t2 : TE} {pos : Pos} (h1 : PE X e1 t1) (h2 : PE X e2 t2) : PE X (.Dict [none, none] [e1, e2] pos) (tTwo t1 t2) := by
  refine ⟨fun pins s σ H Q I q => ?_⟩
  have hn := I.hok.fresh (Nat.le_refl s.heap.objs.size)
  have I1 := I.laid (a := s.heap.objs.size) (o := .dK []) (h' := s.heap.push { cls := .type "dict", data := .dict #[] }) (t' := s.toks) (fun _ _ q => Heap.get?_push_of_some _ q) (Nat.le_refl _) (dk_empty s.heap I.big)
  unfold eval
  refine wpAny_bind (wpAny_standAt ?_)
  unfold dictDisplay
  simp only [evalEachOpt, evalOpt, evalEach, List.map_cons, List.map_nil, List.zip_cons_cons, List.zip_nil_right, List.forIn_cons, List.forIn_nil, List.isEmpty_nil, if_true]
  refine wpAny_bind (wpAny_bind (wpAny_bind (wpAny_pure ?_)))
  dsimp only
  refine wpAny_bind (wpAny_alloc ?_)
  refine wpAny_bind (wpAny_holding (wpAny_bind (thn (h1.run pins _ σ _ _ I1 (q _ hn)) fun u s1 ⟨x, H1, J1, rx, a, k1, ex, ea, na, z1, ep, q1⟩ => wpAny_bind (wpAny_standAt (wpAny_pure ?_)))))
  subst ex
  obtain rfl : u = Value.ref a := rx
  refine wpAny_bind (wpAny_onRaise (wpAny_tryCatch (wpAny_onRaise (wpAny_holding (d_into J1 ep ea na (by rw [List.length_nil, Nat.zero_add]; exact z1) (fun z => nomatch z) fun s2 J2 => ?_)))))
  refine wpAny_pure ?_
  dsimp only
  refine wpAny_bind (wpAny_bind ?_)
  simp only [List.isEmpty_nil, if_true]
  refine wpAny_pure ?_
  dsimp only
  refine wpAny_bind (wpAny_pure ?_)
  refine wpAny_bind (wpAny_holding (wpAny_bind (thn (h2.run pins _ σ _ _ J2 q1) fun u2 s3 ⟨y, H2, J3, ry, b, k2, ey, eb, nb, z2, ep2, q2⟩ => wpAny_bind (wpAny_standAt (wpAny_pure ?_)))))
  subst ey
  obtain rfl : u2 = Value.ref b := ry
  have z3 : (mergeK [] k1).length + k2.length ≤ sizeLine := by
    have h3 := length_mergeK k1 []
    rw [List.length_nil] at h3
    omega
  refine wpAny_bind (wpAny_onRaise (wpAny_tryCatch (wpAny_onRaise (wpAny_holding (d_into J3 ep2 eb nb z3 (fun z => nomatch z) fun s4 J4 => ?_)))))
  refine wpAny_pure ?_
  dsimp only
  refine wpAny_pure ?_
  dsimp only
  refine wpAny_bind ?_
  simp only [List.isEmpty_nil, if_true]
  refine wpAny_pure ?_
  dsimp only
  exact wpAny_pure ⟨.ref s.heap.objs.size, _, J4, rfl, q2⟩
end
end AF
namespace AF
open PySem PySem.Spec PyProof.Rows L2
/-- f(**d): the call itself -/
theorem dstar_call {M : Model} {A : Around} {E : Value → Shared → Prop} {s : Shared} {K : PySem.W.Frag} {f : Value} {t : Sem Value} {pos : Pos} {Q : Value → Shared → Prop} (hk : PySem.W.keepIn K f = true)
    (h : wpAny M A (evalArgs f true [] [(none, t)]) (fun a s1 => K.In s1.heap ∧ wpAny M A (call f ([] ++ a.pos) a.kw) Q E s1) E s) : wpAny M A (callWith pos f [] [] [(none, t)]) Q E s := by
  unfold callWith
  refine wpAny_bind (wpAny_holding (wpAny_mono h (fun a s1 h1 => wpAny_bind (wpAny_standAt ?_)) fun _ _ x => x))
  obtain ⟨kp, hkp, L⟩ := PySem.W.keeps_K (M := M) hk _ h1.1
  have st : (([] : List (Bool × Sem Value)).any (·.1) || ([(none, t)] : List (Option Str × Sem Value)).any (·.1.isNone)) = true := rfl
  simp only [st]
  refine wpAny_bind (L.here ?_)
  have last : ∀ {m : Sem Value}, wpAny M A m Q E s1 → wpAny M A (m >>= fun r => holding [r] point >>= fun _ => pure r) Q E s1 :=
    fun hm => wpAny_bind (wpAny_mono hm (fun r s2 hr => wpAny_bind (wpAny_holding (wpAny_point (wpAny_pure hr)))) fun _ _ x => x)
  rcases hkp with e | e | e <;> subst e <;> dsimp only
  · refine last ?_
    unfold callMarked
    exact Calls.wpAny_keep h1.2
  · exact last (wpAny_operating h1.2)
  · exact last (wpAny_operating h1.2)
theorem mergeK_app : ∀ {more acc : List (Key × V)}, ((acc ++ more).map (·.1)).Nodup → mergeK acc more = acc ++ more := by
  intro more
  induction more with
  | nil => intro acc _; simp [mergeK]
  | cons p r ih =>
    intro acc h
    have e : putK acc p.1 p.2 = acc ++ [p] := by
      unfold putK
      rw [if_neg]
      intro z
      obtain ⟨y, hy, e⟩ := List.any_eq_true.mp z
      rw [List.map_append, List.nodup_append] at h
      exact h.2.2 y.1 (List.mem_map.mpr ⟨y, hy, rfl⟩) p.1 (by rw [List.map_cons]; exact List.mem_cons_self) (by simpa using e)
    show mergeK (putK acc p.1 p.2) r = _
    rw [e, ih (by simpa using h), List.append_assoc]
    rfl
theorem mergeK_new {kvs : List (Key × V)} (h : ((([] : List (Key × V)) ++ kvs).map (fun q : Key × V => q.1)).Nodup) : mergeK [] kvs = kvs := mergeK_app h
theorem kv_zip : ∀ {ks : List Str} {vs : List V} {rs : List (Key × Value)}, ks.length = vs.length → KV ((ks.map Sum.inr).zip vs) rs → ∃ ws : List Value, rs = (ks.map Sum.inr).zip ws ∧ Vals vs ws ∧ ks.length = ws.length := by
  intro ks
  induction ks with
  | nil =>
    intro vs rs h r
    cases vs with
    | nil => cases r; exact ⟨[], rfl, .nil, rfl⟩
    | cons v vs => cases h
  | cons k ks ih =>
    intro vs rs h r
    cases vs with
    | nil => cases h
    | cons v vs =>
      cases r with
      | @cons a b as bs hh t =>
        obtain ⟨ws, e, r2, l⟩ := ih (by simpa using h) t
        obtain ⟨b1, b2⟩ := b
        obtain ⟨h1, h2⟩ := hh
        have h1' : b1 = Sum.inr k := h1.symm
        subst h1'
        exact ⟨b2 :: ws, by rw [e]; rfl, .cons h2 r2, by rw [List.length_cons, List.length_cons, l]⟩
section
variable {X : Cx} {pins : List (Addr × Obj)} {σ : L2.St} {H : Hp} {s : Shared} {A : Around} {E : Value → Shared → Prop}
/-- the keywords of a dict whose keys are texts -/
theorem kws_in {f : Value} {d : Addr} {ks : List Str} {ws : List Value} {P : Program} {w : World} {Q : List (Str × Value) → Shared → Prop} (D : s.heap.DictOf (mixKind P w) d ((ks.map Sum.inr).zip ws)) (hl : ks.length = ws.length)
    (q : Q (ks.zip ws) s) : wpAny (model P w) A (keywordsIn f d) Q E s := by
  obtain ⟨ob, ents, eph, gd, cd, dd, kd, pd, nd⟩ := D
  unfold keywordsIn
  refine wpAny_bind (wpAny_dictEntries gd dd ?_)
  refine wpAny_bind ?_
  rw [← Array.forIn_toList]
  have loop : ∀ (l : List DictEntry) (ks : List Str) (ws : List Value) (acc : List (Str × Value)) (f : DictEntry → List (Str × Value) → Sem (ForInStep (List (Str × Value)))) (P2 : List (Str × Value) → Shared → Prop),
      Pairs (mixKind P w) l ((ks.map Sum.inr).zip ws) → ks.length = ws.length → (∀ e acc x t, e.key = .str x t → f e acc = pure (ForInStep.yield (acc ++ [(x, e.val)]))) → P2 (acc ++ ks.zip ws) s → wpAny (model P w) A (forIn l acc f) P2 E s := by
    intro l
    induction l with
    | nil =>
      intro ks ws acc f P2 p hl hf h
      rw [List.forIn_nil]
      refine wpAny_pure ?_
      cases ks with
      | nil => simpa using h
      | cons k ks =>
        cases ws with
        | nil => simpa using h
        | cons v ws => cases p
    | cons e l ih =>
      intro ks ws acc f P2 p hl hf h
      cases ks with
      | nil => cases p
      | cons k ks =>
        cases ws with
        | nil => cases p
        | cons v ws =>
          cases p with
          | cons h1 h2 h3 =>
            rcases keyIs_shape (show keyIs (Sum.inr k) e.key = true from h1) with ⟨i, t, z, _⟩ | ⟨x, t, z, e2⟩
            · cases z
            · have z2 : k = x := Sum.inr.inj z
              subst z2
              rw [List.forIn_cons, hf e acc k t e2]
              refine wpAny_bind (wpAny_pure ?_)
              refine ih ks ws _ f P2 h3 (by simpa using hl) hf ?_
              have h2' : e.val = v := h2
              rw [h2', List.append_assoc]
              exact h
  refine loop _ ks ws [] _ _ pd hl (fun e acc x t he => ?_) ?_
  · dsimp only
    rw [he]
  · dsimp only
    exact wpAny_pure q
/-- f(**d)'s arguments: a new dict with the pairs -/
theorem args_dstar {f : Value} {e : Expr} {pos : Pos} {te : TE} {ks : List Str} {Q : Args → Shared → Prop} {R : Addr → V → Hp → Prop} (he : PE X e te) (I : Inv X pins σ H s) (h : ∀ p, H p = none → te σ (upd H p (.dK [])) (R p))
    (hR : ∀ p x H1, R p x H1 → ∃ a vs, x = .ref a ∧ Rd H1 a (.dK ((ks.map Sum.inr).zip vs)) ∧ ks.length = vs.length ∧ p ≠ a ∧ ks.Nodup ∧ H1 p = some (.dK []) ∧
      ∀ ws s', Inv X pins σ (upd H1 p (.dK ((ks.map Sum.inr).zip vs))) s' → Vals vs ws → Q ⟨[], ks.zip ws⟩ s') :
    wpAny (model X.prog X.w) X.A (evalArgs f true [] [(none, (do let v ← eval e X.env; standAt pos; pure v))]) Q X.xe s := by
  have hn := I.hok.fresh (Nat.le_refl s.heap.objs.size)
  have I1 := I.laid (a := s.heap.objs.size) (o := .dK []) (h' := s.heap.push { cls := .type "dict", data := .dict #[] }) (t' := s.toks) (fun _ _ q => Heap.get?_push_of_some _ q) (Nat.le_refl _) (dk_empty s.heap I.big)
  unfold evalArgs
  refine wpAny_bind ?_
  unfold spliced
  refine wpAny_pure (wpAny_bind (wpAny_pure ?_))
  dsimp only [List.nil_append, Option.toList]
  refine wpAny_holding ?_
  rw [if_neg (by simp)]
  unfold mergedKeywords
  refine wpAny_bind (wpAny_bind (wpAny_alloc ?_))
  refine wpAny_bind (wpAny_holding (wpAny_bind ?_))
  rw [List.forIn_cons]
  refine wpAny_bind (wpAny_bind (wpAny_pure ?_))
  refine wpAny_bind (wpAny_bind (thn (he.run pins _ σ _ _ I1 (h _ hn)) fun u s1 ⟨x, H1, J1, rx, q0⟩ => wpAny_bind (wpAny_standAt (wpAny_pure ?_))))
  obtain ⟨a, vs, ex, ea, lk, ne, nd, ep, q1⟩ := hR _ _ _ q0
  subst ex
  obtain rfl : u = Value.ref a := rx
  have mk : ((ks.map Sum.inr).zip vs).map (·.1) = (ks.map Sum.inr : List Key) := by
    rw [List.map_fst_zip]
    rw [List.length_map]
    exact Nat.le_of_eq lk
  have ndk : ((([] : List (Key × V)) ++ (ks.map Sum.inr).zip vs).map (fun q : Key × V => q.1)).Nodup := by
    rw [List.nil_append]
    refine (congrArg List.Nodup mk).mpr ?_
    exact List.Pairwise.map _ (fun a b h e => h (Sum.inr.inj e)) nd
  obtain ⟨z, _⟩ := dk_rd J1.hok ea
  refine wpAny_bind (wpAny_onRaise (wpAny_holding (wpAny_tryCatch (wpAny_onRaise (d_into J1 ep ea ne (by rw [List.length_nil, Nat.zero_add]; exact z) (fun _ => ndk) fun s2 J2 => ?_)))))
  refine wpAny_pure ?_
  dsimp only
  rw [List.forIn_nil]
  refine wpAny_pure ?_
  rw [if_pos (show ([] : List (Str × Sem Value)).isEmpty = true from rfl)]
  refine wpAny_pure (wpAny_pure (wpAny_bind (wpAny_pure (wpAny_bind (wpAny_holding ?_)))))
  rw [mergeK_new ndk] at J2
  obtain ⟨z2, hd2, rs, rr, dd⟩ := dk_of J2.hok upd_same
  obtain ⟨ws, er, rw_, lw⟩ := kv_zip lk rr
  subst er
  exact kws_in dd lw (wpAny_pure (q1 ws s2 J2 rw_))
end
end AF
namespace AF
open PySem PySem.Spec PyProof.Rows L2
/-- C(**e) -/
def tMwS (C : Addr) (ks : List Str) (sp : Sp) (gV : List V → List V → List V) (E : XK) (te : TE) : TE := fun σ H Q => ∀ p, H p = none → te σ (upd H p (.dK [])) fun x H1 => ∃ a vs, x = .ref a ∧ Rd H1 a (.dK ((ks.map Sum.inr).zip vs)) ∧ ks.length = vs.length ∧ p ≠ a ∧ ks.Nodup ∧ H1 p = some (.dK []) ∧
  ∀ y dx, upd H1 p (.dK ((ks.map Sum.inr).zip vs)) y = none → upd H1 p (.dK ((ks.map Sum.inr).zip vs)) dx = none → dx ≠ y →
    sp (gV [.ref y] vs) (upd (upd (upd H1 p (.dK ((ks.map Sum.inr).zip vs))) dx (.own y)) y (.ins C dx [])) (fun v H3 => v = .non ∧ Q (.ref y) H3) E
theorem pe_mwS {X : Cx} {CX : CXT} {k : Nat} {C f : Addr} {fd : FuncData} {ps ks : List Str} {sp : Sp} {E : XK} {x : Str} {p pos kp : Pos} {e : Expr} {te : TE} {g : List Value → List Value → List Value} {gV : List V → List V → List V} (M : Mk X.K C f) (F : FnOk X.prog X.w X.K X.mg X.base CX k f fd ps sp) (hb : KBn X.K fd ps 1 ks g gV)
    (hr : Room (k + 1) X.A) (hg : Gl X x) (hm : X.mg x = some (.ref C)) (hx : Passes CX X E) (he : PE X e te) (hdb : (x == ("__debug__" : Str)) = false := by decide) :
    PE X (.Call (.Name x p) [] [⟨none, e, kp⟩] pos) (tMwS C ks sp gV E te) := by
  refine ⟨fun pins s σ H Q I h => ?_⟩
  refine wpAny_Call_Name_kw (ld_glob I hg hm ?_ hdb)
  show wpAny _ _ (callWith pos (.ref C) [] [] [(none, (do let v ← eval e X.env; standAt pos; pure v))]) _ _ s
  refine dstar_call (K := X.K) M.kp (args_dstar (ks := ks) he I h fun p x H1 ⟨a, vs, ex, ea, lk, ne, nd, ep, q⟩ => ⟨a, vs, ex, ea, lk, ne, nd, ep, fun ws s' J rw => ⟨J.kIn, ?_⟩⟩)
  exact run_makeK (n := 0) (us := []) (vs := []) M F hr hb hx J .nil rw rfl lk.symm q
/-- def f(self, **d): called without keywords *-/
theorem okKwd {P : Program} {w : World} {K : PySem.W.Frag} {mg : Str → Option Value} {base : Heap} {n q : Str} {params : Arguments} {body : List Stmt} {scope : Scope} {f : Addr} {fd : FuncData} {N : List Str} {p1 pd : Str} {k : Nat} {sp : Sp}
    (F : FunD K n q params body scope [] [] f fd) (S : FnScope N [p1, pd] scope)
    (h0 : ∀ (kV doc pm : Value) (an : Option Addr) (cdv ct : Value) (a : Value), bindArgs (PySem.W.fnOf n q params body scope .none kV doc pm an cdv ct) ⟨[a], []⟩ = ((alloc ({ cls := .type "dict", data := .dict #[] } : Obj) : Sem Addr) >>= fun d => pure [(p1, a), (pd, Value.ref d)]))
    (hbody : ∀ (cdv : Value) (A : Around) (outer : List Env) (s : Shared) (H : Hp) (vs : List V) (Q : VK) (E : XK), Room k (A.deeper (envOfC q scope s.heap.objs.size f cdv)) → sp vs H Q E →
      ∃ t, PSs (cxOf (L2.CX P w) P w K mg base N q scope f cdv A outer s H E) body t ∧ t { nx := fun _ H' => Q .non H', rt := Q } (start N vs) H) :
    FnR P w K mg base (L2.CX P w) (k + 1) f (fun vs H Q E => ∃ v, vs = [v] ∧ ∀ d, H d = Option.none → sp [v, .ref d] (upd H d (.dK [])) Q E) := by
  obtain ⟨oc, od, dV, kV, doc, pm, an, cdv, ct, osl, rfl, lk, hcd, hd, _⟩ := F.ex
  have e : dV = .none := by
    rcases hd with ⟨_, e⟩ | ⟨e, _⟩
    · exact e
    · exact absurd rfl e
  subst e
  intro A outer s H us vs Q E hr e0 r hsp
  obtain ⟨v, ev, hq⟩ := hsp
  subst ev
  obtain ⟨u, eu, ru⟩ := vals1 r
  subst eu
  have hn : H s.heap.objs.size = Option.none := e0.hok.fresh (Nat.le_refl _)
  refine StX.run_bnd (ps := [p1, pd]) lk hcd S hr e0 (G := fun xs H2 => ∃ d, H d = Option.none ∧ xs = [v, .ref d] ∧ H2 = upd H d (.dK [])) (fun A' Ex Q' h => ?_) fun s2 H2 xs ⟨d, hd, ex, eH⟩ hr' => ?_
  · rw [h0]
    refine wpAny_bind (wpAny_alloc (wpAny_pure ?_))
    have e1 := StX.env0_laid (u := .dK []) (o := ({ cls := .type "dict", data := .dict #[] } : Obj)) e0 (dk_empty _ (StX.env0_big e0))
    have un := StX.un_laid (fs := frs outer) (s := s) (o := ({ cls := .type "dict", data := .dict #[] } : Obj)) (u := .dK []) hn
    exact h _ _ [v, .ref s.heap.objs.size] [u, .ref s.heap.objs.size] e1 un rfl (fun e s' => StX.cxUp outer s H _ _ E e s' un (fun b o q => Heap.get?_push_of_some _ q) rfl) (.cons ru (.cons rfl .nil)) rfl ⟨_, hn, rfl, rfl⟩
  · subst ex eH
    exact hbody cdv A outer s2 _ _ Q E hr' (hq d hd)
/-- o.m(), m with **d -/
theorem pe_methR0 {X : Cx} {k : Nat} {C f : Addr} {m : Str} {sp : Sp} {E : XK} {o : Expr} {ta : TE} {apos pos : Pos} {pl : Sem Bool} (he : PE X o ta) (c : Cls X.K C) (hm : Meth X.K C m f) (F : FnR X.prog X.w X.K X.mg X.base (L2.CX X.prog X.w) k f sp) (hr : Room k X.A) (hx : Passes (L2.CX X.prog X.w) X E)
    (ht : eval (.Call (.Attribute o m apos) [] [] pos) X.env = (do
      let ov ← eval o X.env
      standAt apos.atName
      let (f, first) ← holding [ov] (getMethod ov m pl)
      callWith pos f first (backTo pos (starEach [] X.env)) (backToKw pos (keywordEach [] X.env))) := by rfl) :
    PE X (.Call (.Attribute o m apos) [] [] pos) (tMeth C m sp [] E ta tNil) := by
  refine ⟨fun pins s σ H Q I h => ?_⟩
  refine PySem.W.methodCall_KW (pl := pl) (thn (he.run pins s σ H _ I h) fun u s1 ⟨x, H1, I1, rx, a, dx, fs, ex, ea, l, q⟩ => ?_) ht
  subst ex
  obtain rfl : u = Value.ref a := rx
  refine getmeth_ok I1 ea c hm l ?_
  exact PySem.W.callWith_K0 (first := [.ref a]) I1.kIn hm.kp (wpAny_call (run_fnR (vs := [.ref a]) F hr hx I1 (.cons (show RelV (.ref a) (.ref a) from rfl) .nil) q))
end AF
namespace AF
open PySem PySem.Spec PyProof.Rows L2
/-- a name stored into a dict of texts and numbers -/
theorem ns_pairs {P : Program} {w : World} {A : Around} {E : Value → Shared → Prop} {s : Shared} {d : Addr} {cur : List (Key × Value)} {x : Str} {v : Value} {Q : Unit → Shared → Prop} (D : s.heap.DictOf (mixKind P w) d cur)
    (q : ∀ h' tk, h'.DictOf (mixKind P w) d (stored cur (.inr x) v) → Heap.SameBut d s.heap h' → Q () { s with heap := h', toks := tk }) : wpAny (model P w) A (nsSet d x v) Q E s := by
  obtain ⟨ob, ents, eph, gd, cd, dd, kd, pd, nd⟩ := D
  have noRef : ents.any (·.refKey) = false := by
    rw [Array.any_eq_false']
    intro e he
    obtain ⟨k, hk, _⟩ := kd e he
    rcases keyIs_shape hk with ⟨i, t, _, z⟩ | ⟨y, t, _, z⟩ <;> simp [DictEntry.refKey, z]
  unfold nsSet strHash
  refine wpAny_bind (wpAny_bind (wpAny_askSetting (wpAny_pure ?_)))
  refine wpAny_bind (wpAny_mkText ?_)
  refine wpAny_bind (wpAny_loadPart gd ?_)
  rw [dd]
  dsimp only
  rw [if_neg (by rw [aRefKeyMayBeTheName_eq]; unfold aRefKeyMayBeTheNameByArray; rw [noRef, Bool.and_false]; exact Bool.false_ne_true)]
  refine wpAny_updatePart gd (q _ _ ?_ (Heap.SameBut.update ..))
  have ik : (mixKind P w).is (.inr x) (.str x s.toks) = true := by
    show Value.isStrOf x (.str x s.toks) = true
    simp [Value.isStrOf]
  have same : (fun e : DictEntry => e.key.isStr x) = fun e => (mixKind P w).is (.inr x) e.key := by
    funext e
    show e.key.isStr x = Value.isStrOf x e.key
    cases e.key <;> rfl
  have fi : (ents.findIdx? fun e => (mixKind P w).is (.inr x) e.key) = cur.findIdx? fun y => decide (y.1 = .inr x) := by
    have e2 := pd.findIdx (.inr x)
    rw [← e2]
    cases ents
    simp
  obtain ⟨c, d0, dt, sl⟩ := ob
  have dd' : dt = Data.dict ents eph := dd
  subst dd'
  generalize hx : (ents.findIdx? fun e => (mixKind P w).is (.inr x) e.key) = r
  have hx2 : (ents.findIdx? fun e => e.key.isStr x) = r := by rw [same]; exact hx
  rw [hx] at fi
  cases r with
  | some i =>
    have old : (cur.any fun y => decide (y.1 = .inr x)) = true := any_of_findIdx_some fi.symm
    have e3 : stored cur (.inr x) v = _ := if_pos old
    have e5 : Obj.putName x (if x.cps.isEmpty = true then 0 else reduceHash (w.params.strHash x.cps)) (.str x s.toks) v ⟨c, d0, .dict ents eph, sl⟩ = ⟨c, d0, .dict (ents.modify i fun e => { e with val := v }) eph, sl⟩ := by
      rw [Obj.putName_eq]
      unfold Obj.putNameByArray
      dsimp only
      rw [hx2]
    refine ⟨⟨c, d0, .dict (ents.modify i fun e => { e with val := v }) eph, sl⟩, _, eph, ?_, (by obtain ⟨a, b, c⟩ := cd; exact ⟨a, b, c⟩), rfl, kd.modify _ _, ?_, ?_⟩
    · rw [← e5]
      exact Heap.get?_update_self _ gd (show Obj.isFreed _ = false from (congrArg Obj.isFreed e5).trans rfl)
    · rw [e3]
      have hl : (ents.toList.findIdx? fun e => (mixKind P w).is (.inr x) e.key) = some i := by
        rw [← hx]
        cases ents
        simp
      have := pd.modify nd hl v
      cases ents
      simpa using this
    · rw [e3, keys_map_store]
      exact nd
  | none =>
    have new : (Sum.inr x : Key) ∉ cur.map (·.1) := not_mem_of_findIdx_none fi.symm
    have e4 : ¬ (cur.any fun y => decide (y.1 = .inr x)) = true := fun z => by
      obtain ⟨y, hy1, hy2⟩ := List.any_eq_true.mp z
      exact new (List.mem_map.mpr ⟨y, hy1, of_decide_eq_true hy2⟩)
    have e3 : stored cur (.inr x) v = _ := if_neg e4
    have e5 : Obj.putName x (if x.cps.isEmpty = true then 0 else reduceHash (w.params.strHash x.cps)) (.str x s.toks) v ⟨c, d0, .dict ents eph, sl⟩ = ⟨c, d0, .dict (ents.push ⟨(mixKind P w).hash (.inr x), .str x s.toks, v⟩) (eph + 1), sl⟩ := by
      rw [Obj.putName_eq]
      unfold Obj.putNameByArray
      dsimp only
      rw [hx2]
      rfl
    refine ⟨⟨c, d0, .dict (ents.push ⟨(mixKind P w).hash (.inr x), .str x s.toks, v⟩) (eph + 1), sl⟩, _, eph + 1, ?_, (by obtain ⟨a, b, c⟩ := cd; exact ⟨a, b, c⟩), rfl, kd.push ik _, ?_, ?_⟩
    · rw [← e5]
      exact Heap.get?_update_self _ gd (show Obj.isFreed _ = false from (congrArg Obj.isFreed e5).trans rfl)
    · rw [e3]
      have := pd.append ik ((mixKind P w).hash (.inr x)) v
      cases ents
      simpa using this
    · rw [e3, List.map_append, List.nodup_append]
      refine ⟨nd, by simp, fun a ha b hb => ?_⟩
      have hb' : b = .inr x := by simpa using hb
      intro e
      exact new (by rw [← hb', ← e]; exact ha)
end AF
namespace AF
open PySem PySem.Spec PyProof.Rows L2
/-- what a def promises that is called with keywords ks (it may make objects while it binds) -/
def FnQ (P : Program) (w : World) (K : PySem.W.Frag) (mg : Str → Option Value) (base : Heap) (k : Nat) (f : Addr) (ks : List Str) (sp : List V → List V → Hp → VK → XK → Prop) : Prop :=
  ∀ (A : Around) (outer : List Env) (s : Shared) (H : Hp) (us ws : List Value) (vs zs : List V) (Q : VK) (E : XK), Room k A → Env0 P w K mg base A outer s H → Vals vs us → Vals zs ws → zs.length = ks.length → sp vs zs H Q E →
    codeAny (model P w) A (.call (.ref f) ⟨us, ks.zip ws⟩) (CR (L2.CX P w) outer P w H s Q E) s
theorem kw_fill {P : Program} {w : World} {A : Around} {E : Value → Shared → Prop} {d : Addr} : ∀ (ks : List Str) (ws : List Value) (acc : List (Key × Value)) (s : Shared) (Q : PUnit → Shared → Prop), ks.length = ws.length → ((acc ++ (ks.map Sum.inr).zip ws).map (fun q : Key × Value => q.1)).Nodup → s.heap.DictOf (mixKind P w) d acc →
    (∀ h' tk, h'.DictOf (mixKind P w) d (acc ++ (ks.map Sum.inr).zip ws) → Heap.SameBut d s.heap h' → Q PUnit.unit { s with heap := h', toks := tk }) →
    wpAny (model P w) A (forIn (ks.zip ws) PUnit.unit fun (x : Str × Value) (_ : PUnit) => (do nsSet d x.1 x.2; pure (ForInStep.yield PUnit.unit) : Sem (ForInStep PUnit))) Q E s
  | [], [], acc, s, Q, _, _, D, q => by
    rw [List.zip_nil_left, List.forIn_nil]
    have z := q s.heap s.toks (by simpa using D) (Heap.SameBut.refl _ _)
    exact wpAny_pure z
  | [], _ :: _, _, _, _, h, _, _, _ => nomatch h
  | _ :: _, [], _, _, _, h, _, _, _ => nomatch h
  | k :: ks, v :: ws, acc, s, Q, h, nd, D, q => by
    rw [List.zip_cons_cons, List.forIn_cons]
    refine wpAny_bind (wpAny_bind (ns_pairs D fun h' tk D' sb => wpAny_pure ?_))
    have nk : stored acc (Sum.inr k) v = acc ++ [(Sum.inr k, v)] := by
      refine if_neg fun z => ?_
      obtain ⟨y, hy1, hy2⟩ := List.any_eq_true.mp z
      rw [List.map_append, List.nodup_append] at nd
      exact nd.2.2 y.1 (List.mem_map.mpr ⟨y, hy1, rfl⟩) (Sum.inr k) (by simp) (of_decide_eq_true hy2)
    rw [nk] at D'
    refine kw_fill ks ws (acc ++ [(Sum.inr k, v)]) _ Q (by simpa using h) (by simpa using nd) D' fun h2 tk2 D2 sb2 => ?_
    have e : acc ++ ((k :: ks).map Sum.inr).zip (v :: ws) = acc ++ [(Sum.inr k, v)] ++ (ks.map Sum.inr).zip ws := by simp
    exact q h2 tk2 (by rw [e]; exact D2) (sb.trans sb2)
theorem env0_up {P : Program} {w : World} {K : PySem.W.Frag} {mg : Str → Option Value} {base : Heap} {A : Around} {outer : List Env} {s : Shared} {H : Hp} {u : HO} {h' : Heap} {tk : Nat} (e0 : Env0 P w K mg base A outer s H) (kp : ∀ b x, s.heap.get? b = some x → h'.get? b = some x)
    (sz : s.heap.objs.size ≤ h'.objs.size) (new : ObjOk P w (upd H s.heap.objs.size u) h' s.heap.objs.size u) : Env0 P w K mg base A outer { s with heap := h', toks := tk } (upd H s.heap.objs.size u) := by
  refine ⟨e0.frames, e0.mod, fun b x e => ⟨kp b x (e0.bs b x e).1, ?_⟩, Nat.le_trans e0.bsz sz, Heap.FunFrames.of_keeps (fun b x e _ => ⟨x, kp b x e, rfl⟩) e0.funs, fun b hb => ?_, e0.hok.laid kp (Nat.le_refl _) new, e0.bare⟩
  · have lt := Heap.lt_size (e0.bs b x e).1
    rw [upd_ne (Nat.ne_of_lt lt)]
    exact (e0.bs b x e).2
  · obtain ⟨_, x, hx, _⟩ := e0.funs.mem hb
    have lt := Heap.lt_size hx
    rw [upd_ne (Nat.ne_of_lt lt)]
    exact e0.frf b hb
theorem kv_of : ∀ {ks : List Str} {zs : List V} {ws : List Value}, Vals zs ws → KV ((ks.map Sum.inr : List Key).zip zs) ((ks.map Sum.inr).zip ws)
  | [], _, _, _ => .nil
  | _ :: _, _, _, .nil => .nil
  | k :: ks, _, _, .cons a r => .cons ⟨rfl, a⟩ (kv_of r)
/-- def f(self, **d) *-/
theorem okKwdQ {P : Program} {w : World} {K : PySem.W.Frag} {mg : Str → Option Value} {base : Heap} {n q : Str} {params : Arguments} {body : List Stmt} {scope : Scope} {f : Addr} {fd : FuncData} {N : List Str} {p1 pd : Str} {k : Nat} {sp : Sp} {ks : List Str}
    (F : FunD K n q params body scope [] [] f fd) (S : FnScope N [p1, pd] scope) (nd : ks.Nodup) (few : ks.length ≤ 100)
    (h0 : ∀ (kV doc pm : Value) (an : Option Addr) (cdv ct : Value) (a : Value) (ws : List Value), ws.length = ks.length → bindArgs (PySem.W.fnOf n q params body scope .none kV doc pm an cdv ct) ⟨[a], ks.zip ws⟩ = ((alloc ({ cls := .type "dict", data := .dict #[] } : Obj) : Sem Addr) >>= fun d =>
      (forIn (ks.zip ws) PUnit.unit fun (x : Str × Value) (_ : PUnit) => (do nsSet d x.1 x.2; pure (ForInStep.yield PUnit.unit) : Sem (ForInStep PUnit))) >>= fun _ => pure [(p1, a), (pd, Value.ref d)]))
    (hbody : ∀ (cdv : Value) (A : Around) (outer : List Env) (s : Shared) (H : Hp) (vs : List V) (Q : VK) (E : XK), Room k (A.deeper (envOfC q scope s.heap.objs.size f cdv)) → sp vs H Q E →
      ∃ t, PSs (cxOf (L2.CX P w) P w K mg base N q scope f cdv A outer s H E) body t ∧ t { nx := fun _ H' => Q .non H', rt := Q } (start N vs) H) :
    FnQ P w K mg base (k + 1) f ks (fun vs zs H Q E => ∃ v, vs = [v] ∧ ∀ d, H d = Option.none → sp [v, .ref d] (upd H d (.dK ((ks.map Sum.inr).zip zs))) Q E) := by
  obtain ⟨oc, od, dV, kV, doc, pm, an, cdv, ct, osl, rfl, lk, hcd, hd, _⟩ := F.ex
  have e : dV = .none := by
    rcases hd with ⟨_, e⟩ | ⟨e, _⟩
    · exact e
    · exact absurd rfl e
  subst e
  intro A outer s H us ws vs zs Q E hr e0 r rz lz hsp
  obtain ⟨v, ev, hq⟩ := hsp
  subst ev
  obtain ⟨u, eu, ru⟩ := vals1 r
  subst eu
  have lw : ws.length = ks.length := rz.length.symm.trans lz
  have hn : H s.heap.objs.size = Option.none := e0.hok.fresh (Nat.le_refl _)
  refine StX.run_bnd (ps := [p1, pd]) lk hcd S hr e0 (G := fun xs H2 => ∃ d, H d = Option.none ∧ xs = [v, .ref d] ∧ H2 = upd H d (.dK ((ks.map Sum.inr).zip zs))) (fun A' Ex Q' h => ?_) fun s2 H2 xs ⟨d, hd, ex, eH⟩ hr' => ?_
  · rw [h0 _ _ _ _ _ _ _ _ lw]
    refine wpAny_bind (wpAny_alloc (wpAny_bind ?_))
    have ndk : ((([] : List (Key × Value)) ++ (ks.map Sum.inr).zip ws).map (fun q : Key × Value => q.1)).Nodup := by
      rw [List.nil_append]
      have mk : ((ks.map Sum.inr : List Key).zip ws).map (fun q : Key × Value => q.1) = ks.map Sum.inr := by
        rw [List.map_fst_zip]
        rw [List.length_map]
        exact Nat.le_of_eq lw.symm
      refine (congrArg List.Nodup mk).mpr ?_
      exact List.Pairwise.map _ (fun a b h e => h (Sum.inr.inj e)) nd
    refine kw_fill (P := P) (w := w) ks ws [] _ _ lw.symm ndk (Heap.DictOf.new s.heap) fun h' tk D sb => wpAny_pure ?_
    have kp : ∀ b x, s.heap.get? b = some x → h'.get? b = some x := fun b x e => (sb.2 b (Nat.ne_of_lt (Heap.lt_size e))).trans (Heap.get?_push_of_some _ e)
    have szs : s.heap.objs.size ≤ h'.objs.size := by
      obtain ⟨_, _, _, hg, _⟩ := D
      exact Nat.le_of_lt (Heap.lt_size hg)
    have big := StX.env0_big e0
    have lzip : ((ks.map Sum.inr : List Key).zip zs).length ≤ sizeLine := by
      rw [List.length_zip, List.length_map]
      have := line1000 (show ks.length ≤ 1000 by omega)
      omega
    have new : ObjOk P w (upd H s.heap.objs.size (.dK ((ks.map Sum.inr).zip zs))) h' s.heap.objs.size (.dK ((ks.map Sum.inr).zip zs)) := dk_new lzip (beq_eq_false_iff_ne.mpr (Ne.symm (Nat.ne_of_lt big))) (kv_of rz) D
    have e1 := env0_up (tk := tk) e0 kp szs new
    have un : Un (frs outer) [] H (upd H s.heap.objs.size (.dK ((ks.map Sum.inr).zip zs))) s.heap h' := Un.laid kp (Nat.le_refl _) hn
    exact h _ _ [v, .ref s.heap.objs.size] [u, .ref s.heap.objs.size] e1 un rfl (fun e s' => StX.cxUp outer s H _ _ E e s' un kp rfl) (.cons ru (.cons rfl .nil)) rfl ⟨_, hn, rfl, rfl⟩
  · subst ex eH
    exact hbody cdv A outer s2 _ _ Q E hr' (hq d hd)
/-- o.m(k = v, ..), m with **d *-/
def tMeQ (C : Addr) (m : Str) (n : Nat) (sp : List V → List V → Hp → VK → XK → Prop) (E : XK) (ta : TE) (tk : TA) : TE := fun σ H Q => ta σ H fun x H1 => ∃ a dx fs, x = .ref a ∧ H1 a = some (.ins C dx fs) ∧ fs.lookup m = none ∧ tk σ H1 fun zs H2 => zs.length = n ∧ sp [x] zs H2 Q E
theorem pe_methQ {X : Cx} {k : Nat} {C f : Addr} {m : Str} {ks : List Str} {sp : List V → List V → Hp → VK → XK → Prop} {E : XK} {o : Expr} {ta : TE} {tk : TA} {kws : List Keyword} {apos pos : Pos} {pl : Sem Bool} (he : PE X o ta) (c : Cls X.K C) (hm : Meth X.K C m f) (F : FnQ X.prog X.w X.K X.mg X.base k f ks sp)
    (hr : Room k X.A) (hx : Passes (L2.CX X.prog X.w) X E) (hkw : PK X kws tk) (hall : (backToKw pos (keywordEach kws X.env)).all (·.1.isSome) = true := by rfl) (hks : (backToKw pos (keywordEach kws X.env)).filterMap (·.1) = ks := by rfl)
    (hpl : ((backTo pos (starEach [] X.env)).any (·.1) || (backToKw pos (keywordEach kws X.env)).any (·.1.isNone)) = false := by rfl)
    (ht : eval (.Call (.Attribute o m apos) [] kws pos) X.env = (do
      let ov ← eval o X.env
      standAt apos.atName
      let (f, first) ← holding [ov] (getMethod ov m pl)
      callWith pos f first (backTo pos (starEach [] X.env)) (backToKw pos (keywordEach kws X.env))) := by rfl) :
    PE X (.Call (.Attribute o m apos) [] kws pos) (tMeQ C m ks.length sp E ta tk) := by
  refine ⟨fun pins s σ H Q I h => ?_⟩
  refine PySem.W.methodCall_KW (pl := pl) (thn (he.run pins s σ H _ I h) fun u s1 ⟨x, H1, I1, rx, a, dx, fs, ex, ea, l, q⟩ => ?_) ht
  subst ex
  obtain rfl : u = Value.ref a := rx
  refine getmeth_ok I1 ea c hm l ?_
  refine PySem.W.callWith_KW0 (first := [.ref a]) (h₀ := X.base) I.ok.mod.kin hm.kp hall ?_ hpl
  refine thn (hkw.run pos pins s1 σ H1 _ I1 q) fun ws s2 ⟨zs, H2, I2, rz, l2, q2⟩ => ⟨I2.kIn, ?_⟩
  rw [hks]
  refine wpAny_call (codeAny_mono (F X.A X.stack s2 H2 [.ref a] ws [.ref a] zs Q E hr I2.env0 (.cons (show RelV (.ref a) (.ref a) from rfl) .nil) rz l2 q2) fun r s3 hq => ?_)
  cases r with
  | error e => exact hx pins σ H2 s2 e s3 I2 hq
  | ok fl =>
    cases fl with
    | ret u => exact I2.after hq
    | next => exact False.elim hq
    | brk => exact False.elim hq
    | cont => exact False.elim hq
end AF
namespace AF
open PySem PySem.Spec PyProof.Rows L2
def kMeQ (C : Addr) (m : Str) (n : Nat) (sp : List V → List V → Hp → VK → XK → Prop) (E : XK) (tk : TA) (σ : L2.St) (Q : VK) (x : V) (H1 : Hp) : Prop := ∃ a dx fs, x = .ref a ∧ H1 a = some (.ins C dx fs) ∧ fs.lookup m = none ∧ tk σ H1 fun zs H2 => zs.length = n ∧ sp [x] zs H2 Q E
instance {C : Addr} {m : Str} {n : Nat} {sp : List V → List V → Hp → VK → XK → Prop} {E : XK} {ta : TE} {tk : TA} {σ : L2.St} {H : Hp} {Q : VK} : Step (tMeQ C m n sp E ta tk σ H Q) (ta σ H (kMeQ C m n sp E tk σ Q)) := ⟨fun h => h⟩
/-- such a method as a fact *-/
structure Qn (P : Program) (w : World) (K : PySem.W.Frag) (mg : Str → Option Value) (base : Heap) (k : Nat) (C : Addr) (m : Str) (ks : List Str) (sp : List V → List V → Hp → VK → XK → Prop) : Prop where
  ex : ∃ f, FnQ P w K mg base k f ks sp ∧ Meth K C m f
  cl : Cls K C
theorem pe_mq {X : Cx} {k : Nat} {C : Addr} {m : Str} {ks : List Str} {sp : List V → List V → Hp → VK → XK → Prop} {E : XK} {o : Expr} {ta : TE} {tk : TA} {kws : List Keyword} {apos pos : Pos} {pl : Sem Bool} (D : Qn X.prog X.w X.K X.mg X.base k C m ks sp) (hr : Room k X.A) (hx : Passes (L2.CX X.prog X.w) X E) (he : PE X o ta) (hkw : PK X kws tk)
    (hall : (backToKw pos (keywordEach kws X.env)).all (·.1.isSome) = true := by rfl) (hks : (backToKw pos (keywordEach kws X.env)).filterMap (·.1) = ks := by rfl)
    (hpl : ((backTo pos (starEach [] X.env)).any (·.1) || (backToKw pos (keywordEach kws X.env)).any (·.1.isNone)) = false := by rfl)
    (ht : eval (.Call (.Attribute o m apos) [] kws pos) X.env = (do
      let ov ← eval o X.env
      standAt apos.atName
      let (f, first) ← holding [ov] (getMethod ov m pl)
      callWith pos f first (backTo pos (starEach [] X.env)) (backToKw pos (keywordEach kws X.env))) := by rfl) :
    PE X (.Call (.Attribute o m apos) [] kws pos) (tMeQ C m ks.length sp E ta tk) := by
  obtain ⟨f, F, M⟩ := D.ex
  exact pe_methQ he D.cl M F hr hx hkw hall hks hpl ht
/-- C(**e) by a fact *-/
theorem pe_mws {X : Cx} {k : Nat} {C : Addr} {ks : List Str} {sp : Sp} {E : XK} {x : Str} {p pos kp : Pos} {e : Expr} {te : TE} {gV : List V → List V → List V} (D : Mw X.prog X.w X.K X.mg X.base k C ks gV sp)
    (hr : Room (k + 1) X.A) (hg : Gl X x) (hm : X.mg x = some (.ref C)) (hx : Passes (L2.CX X.prog X.w) X E) (he : PE X e te) (hdb : (x == ("__debug__" : Str)) = false := by decide) :
    PE X (.Call (.Name x p) [] [⟨none, e, kp⟩] pos) (tMwS C ks sp gV E te) := by
  obtain ⟨f, fd, ps, g, F, M, hb⟩ := D.ex
  exact pe_mwS M F hb hr hg hm hx he hdb
/-- a loop over a dict's keys, by a word for each place *-/
theorem g_keysP {j : Nat} {tb : TS} {nx bk ct : L2.St → Hp → Prop} {rt : VK} {σ : L2.St} {H : Hp} {d : Addr} {o : Obj} {kvs : List (Key × V)} (Pv : Nat → L2.St → Hp → Prop) (hd : H d = some (.frz o (.dK kvs))) (h0 : Pv 0 σ H) (hl : ∀ i σ H, Pv i σ H → H d = some (.frz o (.dK kvs)))
    (hs : ∀ i k v σ H, kvs[i]? = some (k, v) → Pv i σ H → tb ⟨Pv (i + 1), rt, nx, Pv (i + 1)⟩ (σ.set j (some (kV k))) H) (he : ∀ σ H, Pv kvs.length σ H → nx σ H) : kKs (gName j) tb ⟨nx, rt, bk, ct⟩ σ (.ref d) H := by
  refine ⟨d, o, rfl, .inl ⟨kvs, hd, fun i m σ H => m = kvs.length - i ∧ i ≤ kvs.length ∧ Pv i σ H, ⟨kvs.length, by simp, Nat.zero_le _, h0⟩, ?_⟩⟩
  rintro i m σ H ⟨rfl, hi, p⟩
  have hf := hl i σ H p
  by_cases lt : i < kvs.length
  · refine .inr ⟨⟨hf, lt⟩, fun σ' H' => Pv (i + 1) σ' H', fun σ' H' p' => ⟨kvs.length - (i + 1), by omega, rfl, lt, p'⟩, fun x H' y => ?_⟩
    obtain ⟨rfl, k, v, e, rfl⟩ := y
    exact hs i k v σ _ e p
  · have e : i = kvs.length := by omega
    subst e
    exact .inl ⟨⟨hf, Nat.le_refl _⟩, he σ H p⟩
/-! dicts of the same names, compared -/
theorem value_zip : ∀ {ks : List Str} {ws : List Value} {i : Nat} {k : Str} {v : Value}, ks.Nodup → ks[i]? = some k → ws[i]? = some v → valueAt ((ks.map Sum.inr : List Key).zip ws) (.inr k) = some v
  | [], _, _, _, _, _, h, _ => by cases h
  | _ :: _, [], _, _, _, _, _, h => by cases h
  | a :: ks, b :: ws, 0, k, v, _, h1, h2 => by
    cases h1
    cases h2
    simp [valueAt]
  | a :: ks, b :: ws, i + 1, k, v, nd, h1, h2 => by
    have h1' : ks[i]? = some k := h1
    have h2' : ws[i]? = some v := h2
    have ne : a ≠ k := fun z => by
      subst z
      exact (List.nodup_cons.mp nd).1 (List.mem_of_getElem? h1')
    have ih := value_zip (List.nodup_cons.mp nd).2 h1' h2'
    unfold valueAt at ih ⊢
    rw [List.map_cons, List.zip_cons_cons, List.find?_cons_of_neg]
    · exact ih
    · simpa using ne
theorem hitsM {K : PySem.W.Frag} {X : Cx} {pins : List (Addr × Obj)} {σ : L2.St} {H : Hp} {s : Shared} (hK : X.K = K) (I : Inv X pins σ H s) {A : Around} (hu : A.units + 60 < cLine) {vb : List (Key × Value)} : ∀ {ks : List Str} {l1 l2 : List V} {d1 d2 : List PyData} {w1 w2 : List Value}, DpAll K H l1 d1 → DpAll K H l2 d2 → Vals l1 w1 → Vals l2 w2 →
    ks.length = l1.length → ks.length = l2.length → PyData.canLayAll0 d1 = true → PyData.canLayAll0 d2 = true → PyData.depthAll d1 ≤ 59 → (∀ (i : Nat) (k : Str) (v : Value), ks[i]? = some k → w2[i]? = some v → valueAt vb (.inr k) = some v) → PySem.W.KeqHits A s vb ((ks.map Sum.inr).zip w1) (PyData.eqvAll d1 d2) := by
  subst hK
  intro ks
  induction ks with
  | nil =>
    intro l1 l2 d1 d2 w1 w2 p1 p2 r1 r2 e1 e2 _ _ _ _
    cases l1 with
    | cons _ _ => cases e1
    | nil =>
      cases l2 with
      | cons _ _ => cases e2
      | nil =>
        cases p1
        cases p2
        exact .nil
  | cons k ks ih =>
    intro l1 l2 d1 d2 w1 w2 p1 p2 r1 r2 e1 e2 c1 c2 dp hv
    cases l1 with
    | nil => cases e1
    | cons x l1 =>
      cases l2 with
      | nil => cases e2
      | cons y l2 =>
        cases p1 with
        | cons q1 p1 =>
          cases p2 with
          | cons q2 p2 =>
            cases r1 with
            | cons s1 r1 =>
              cases r2 with
              | cons s2 r2 =>
                obtain ⟨as, R1⟩ := Dp.reads I _ _ _ q1 s1
                obtain ⟨bs, R2⟩ := Dp.reads I _ _ _ q2 s2
                have c1' := Bool.and_eq_true_iff.mp c1
                have c2' := Bool.and_eq_true_iff.mp c2
                have dp' := Nat.max_le.mp dp
                have eqh := SeqAt.eqAt_reads _ _ A s _ _ _ _ R1 R2 c1'.1 c2'.1 (Nat.lt_of_le_of_lt (Nat.add_le_add_left (Nat.le_trans (Nat.min_le_left _ _) dp'.1) _) (by omega))
                exact .hit (hv 0 _ _ rfl rfl) eqh (ih p1 p2 r1 r2 (by simpa using e1) (by simpa using e2) c1'.2 c2'.2 dp'.2 fun i k v h1 h2 => hv (i + 1) k v h1 h2)
def rEqM (K : PySem.W.Frag) : R2 := fun x y H Q => ∃ (a b : Addr) (ks : List Str) (l1 l2 : List V) (d1 d2 : List PyData), x = .ref a ∧ y = .ref b ∧ Rd H a (.dK ((ks.map Sum.inr).zip l1)) ∧ Rd H b (.dK ((ks.map Sum.inr).zip l2)) ∧ ks.length = l1.length ∧ ks.length = l2.length ∧ ks.Nodup ∧
  DpAll K H l1 d1 ∧ DpAll K H l2 d2 ∧ PyData.canLayAll0 d1 = true ∧ PyData.canLayAll0 d2 = true ∧ PyData.depthAll d1 ≤ 59 ∧ Q (.bl (PyData.eqvAll d1 d2)) H
def rNeM (K : PySem.W.Frag) : R2 := fun x y H Q => ∃ (a b : Addr) (ks : List Str) (l1 l2 : List V) (d1 d2 : List PyData), x = .ref a ∧ y = .ref b ∧ Rd H a (.dK ((ks.map Sum.inr).zip l1)) ∧ Rd H b (.dK ((ks.map Sum.inr).zip l2)) ∧ ks.length = l1.length ∧ ks.length = l2.length ∧ ks.Nodup ∧
  DpAll K H l1 d1 ∧ DpAll K H l2 d2 ∧ PyData.canLayAll0 d1 = true ∧ PyData.canLayAll0 d2 = true ∧ PyData.depthAll d1 ≤ 59 ∧ Q (.bl (!PyData.eqvAll d1 d2)) H
theorem op_eqM {X : Cx} (hu : X.A.units + 64 < cLine) : OpR X (compareOp .Eq) (rEqM X.K) := by
  intro pins s σ H x y v u Q I rx ry h
  obtain ⟨a, b, ks, l1, l2, d1, d2, rfl, rfl, ea, eb, n1, n2, nd, p1, p2, c1, c2, dp, q⟩ := h
  obtain rfl : v = Value.ref a := rx
  obtain rfl : u = Value.ref b := ry
  obtain ⟨_, ya, va, ra, da⟩ := dk_rd I.hok ea
  obtain ⟨_, yb, vb, rb, db⟩ := dk_rd I.hok eb
  obtain ⟨w1, e1, r1, m1⟩ := kv_zip n1 ra
  obtain ⟨w2, e2, r2, m2⟩ := kv_zip n2 rb
  subst e1 e2
  have hl : ((ks.map Sum.inr : List Key).zip w1).length = ((ks.map Sum.inr : List Key).zip w2).length := by
    rw [List.length_zip, List.length_zip, ← m1, ← m2]
  exact PySem.W.keq_eq (knd := mixKind X.prog X.w) (r := PyData.eqvAll d1 d2) ya yb da db (by omega) (fun _ => hitsM rfl I (show X.A.in1.units + 60 < cLine from by show X.A.units + 1 + 60 < cLine; omega) p1 p2 r1 r2 n1 n2 c1 c2 dp fun i k v h1 h2 => value_zip nd h1 h2) (fin_bl I q (by simp [hl]))
theorem op_neM {X : Cx} (hu : X.A.units + 64 < cLine) : OpR X (compareOp .NotEq) (rNeM X.K) := by
  intro pins s σ H x y v u Q I rx ry h
  obtain ⟨a, b, ks, l1, l2, d1, d2, rfl, rfl, ea, eb, n1, n2, nd, p1, p2, c1, c2, dp, q⟩ := h
  obtain rfl : v = Value.ref a := rx
  obtain rfl : u = Value.ref b := ry
  obtain ⟨_, ya, va, ra, da⟩ := dk_rd I.hok ea
  obtain ⟨_, yb, vb, rb, db⟩ := dk_rd I.hok eb
  obtain ⟨w1, e1, r1, m1⟩ := kv_zip n1 ra
  obtain ⟨w2, e2, r2, m2⟩ := kv_zip n2 rb
  subst e1 e2
  have hl : ((ks.map Sum.inr : List Key).zip w1).length = ((ks.map Sum.inr : List Key).zip w2).length := by
    rw [List.length_zip, List.length_zip, ← m1, ← m2]
  exact PySem.W.keq_ne (knd := mixKind X.prog X.w) (r := PyData.eqvAll d1 d2) ya yb da db (by omega) (fun _ => hitsM rfl I (show X.A.in1.units + 60 < cLine from by show X.A.units + 1 + 60 < cLine; omega) p1 p2 r1 r2 n1 n2 c1 c2 dp fun i k v h1 h2 => value_zip nd h1 h2) (fin_bl I q (by simp [hl]))
theorem ty_kt {K : PySem.W.Frag} {H : Hp} {a : Addr} {xs : List V} (h : KT K a xs) : TyX K H (.ref a) (.type "tuple") := by
  obtain ⟨o, its, n, e, c, _⟩ := h
  exact .kTuple e c
/-- d.update(e) *-/
def rUpd : V → List V → Hp → VK → Prop := fun x vs H Q => ∃ (a b : Addr) (k1 k2 : List (Key × V)), x = .ref a ∧ vs = [.ref b] ∧ H a = some (.dK k1) ∧ Rd H b (.dK k2) ∧ a ≠ b ∧ k1.length + k2.length ≤ sizeLine ∧ Q .non (upd H a (.dK (mergeK k1 k2)))
theorem mt_update {X : Cx} : MtM X "dict.update" rUpd := by
  intro pins s σ H x vs v us Q I rx rv h
  obtain ⟨a, b, k1, k2, rfl, rfl, ea, eb, ne, z, q⟩ := h
  cases rx
  obtain ⟨u, rfl, ru⟩ := rv.one
  cases ru
  obtain ⟨z1, hd1, vs1, r1, dd1⟩ := dk_of I.hok ea
  obtain ⟨z2, hd2, vs2, r2, dd2⟩ := dk_rd I.hok eb
  refine call_meetsIn PySem.F.slot_dict_update dd1.typeIs PySem.F.entry_dict_update (PySem.F.args_dict_update_2 _ _) (meets_dict_update (mixKind X.prog X.w) a b ne hd2) ⟨vs1, vs2, dd1, dd2, by rw [← r1.length, ← r2.length]; exact z, fun h' d1 d2 sb => ?_⟩
  have he : ∃ q, h'.get? a = some q := let ⟨q, _, _, hq, _⟩ := d1; ⟨q, hq⟩
  exact ⟨.non, _, d_write (t' := s.toks) I (by rw [ea]; exact True.intro) sb he (dk_new (Nat.le_trans (length_mergeK k2 k1) z) hd1 (r2.merge r1) d1), rfl, q⟩
/-- [t(name) for name in a list of texts] *-/
theorem g_lcSL {K : PySem.W.Frag} {te : TE} {ks : List Nat} {σ : L2.St} {Q : VK} {H : Hp} {a : Addr} {i : Nat} {ls : List Str} (f : Str → V) (hT : H a = some (.lst (ls.map V.str))) (hn : ls.length ≤ 100)
    (hb : ∀ s, s ∈ ls → ∀ H1 (R : V → Hp → Prop), Up H H1 → R (f s) H1 → wipe ((wipe σ ks).set i (some (.str s))) ks = wipe σ ks ∧ te ((wipe σ ks).set i (some (.str s))) H1 R)
    (q : ∀ D H', H D = none → Up H H' → H' D = some (.lst (ls.map f)) → Q (.ref D) H') : kLcL K (gName i) tYes te ks σ Q (.ref a) H := by
  refine ⟨a, rfl, ⟨_, SqL.of hT⟩, fun D hD => ?_⟩
  have u0 : Up H (upd H D (.lst [])) := Up.new hD
  refine lc_list (K := K) (xs := ls.map V.str) (fun k H' => Up H H' ∧ H' D = some (.lst ((ls.take k).map f))) ⟨u0, upd_same⟩ (fun k H' _ p => SqL.of (p.1 _ _ hT)) (fun k x H' hx p => ?_) fun H' p => ?_
  · obtain ⟨uH, hD'⟩ := p
    rw [List.getElem?_map] at hx
    cases e : ls[k]? with
    | none => rw [e] at hx; cases hx
    | some s =>
      rw [e] at hx
      cases hx
      have etk : ls.take (k + 1) = ls.take k ++ [s] := by rw [List.take_add_one, e]; rfl
      have z := hb s (List.mem_of_getElem? e) H' (fun y H4 => ∃ acc, H4 D = some (.lst acc) ∧ acc.length < sizeLine ∧ (Up H (upd H4 D (.lst (acc ++ [y]))) ∧ upd H4 D (.lst (acc ++ [y])) D = some (.lst ((ls.take (k + 1)).map f)))) uH ⟨_, hD', line1000 (by rw [List.length_map, List.length_take]; omega), Up.setF uH hD, by rw [upd_same, etk, List.map_append]; rfl⟩
      exact ⟨z.1, g_tYes z.2⟩
  · obtain ⟨uH, hD'⟩ := p
    rw [List.length_map, List.take_length] at hD'
    exact q D H' hD uH hD'
/-- o[i] = v by an own __setitem__ *-/
structure SetI17 (K : PySem.W.Frag) (C f : Addr) : Prop where
  nq : PySem.W.noSeq K C = true
  hs : PySem.W.findIn K (.ref C) "__setitem__" = some (some (.ref f))
  hf : PySem.W.isFn K (.ref f) = true
def siB (K : PySem.W.Frag) (C f : Addr) : Bool := PySem.W.noSeq K C && (He.eqO (PySem.W.findIn K (.ref C) "__setitem__") (some (some (.ref f))) && PySem.W.isFn K (.ref f))
theorem siB_ok {K : PySem.W.Frag} {C f : Addr} (h : siB K C f = true) : SetI17 K C f := by
  obtain ⟨h1, h⟩ := He.ba h
  obtain ⟨h2, h3⟩ := He.ba h
  exact ⟨h1, He.eqO_ok h2, h3⟩
def rSetO (C : Addr) (sp : Sp) (E : XK) : TSet := fun o i v H Q => ∃ a dx fs, o = .ref a ∧ H a = some (.ins C dx fs) ∧ sp [o, i, v] H (fun _ H' => Q H') E
theorem set_own {X : Cx} {k : Nat} {f C : Addr} {ps : List Str} {sp : Sp} {E : XK} (D : Dn X.prog X.w X.K X.mg X.base k f ps sp) (B : SetI17 X.K C f) (hr : Room k X.A) (hx : Passes (L2.CX X.prog X.w) X E) : PSet X (rSetO C sp E) := by
  intro pins s σ H o i v ov iv u Q I ro ri rv h
  obtain ⟨a, dx, fs, rfl, ha, q⟩ := h
  cases ro
  obtain ⟨fd, F, b⟩ := D.ex
  obtain ⟨mA, J, _⟩ := ins_get I.hok ha
  obtain ⟨od, J, _⟩ := J.look
  obtain ⟨m, hF⟩ := I.fr
  refine PySem.W.ksp_setItem hF I.ok.mod.kin J B.nq B.hs B.hf ?_
  exact thn (run_fn (us := [.ref a, iv, u]) (vs := [.ref a, i, v]) F hr b .nil hx I (.cons rfl (.cons ri (.cons rv .nil))) q) fun w' s' z => by
    obtain ⟨v', H', I', rv', q'⟩ := z
    exact ⟨H', I', q'⟩
/-- two ways to a value, told by one word *-/
theorem g_meetE {b : Bool} {te1 te2 : TE} {σ : L2.St} {H : Hp} {Q : VK} (W : V → Hp → Prop) (h1 : b = true → ∀ Qx : VK, (∀ v H', W v H' → Qx v H') → te1 σ H Qx) (h2 : b = false → ∀ Qx : VK, (∀ v H', W v H' → Qx v H') → te2 σ H Qx) (q : ∀ v H', W v H' → Q v H') : if b = true then te1 σ H Q else te2 σ H Q := by
  cases b with
  | true => rw [if_pos rfl]; exact h1 rfl Q q
  | false => rw [if_neg (by decide)]; exact h2 rfl Q q
/-- x() of a def *-/
theorem pe_dn0 {X : Cx} {k : Nat} {f : Addr} {sp : Sp} {E : XK} {x : Str} {p pos : Pos} (D : Dn X.prog X.w X.K X.mg X.base k f [] sp) (hr : Room k X.A) (hg : Gl X x) (hm : X.mg x = some (.ref f)) (hx : Passes (L2.CX X.prog X.w) X E) (hdb : (x == ("__debug__" : Str)) = false := by decide) :
    PE X (.Call (.Name x p) [] [] pos) (tCall sp [] E tNil) := by
  obtain ⟨fd, F, b⟩ := D.ex
  exact pe_call0 F hr hg hm D.kp b .nil hx hdb
end AF
/-! comprehensions over a dict's keys; a dict looked at again; sorted texts *-/
namespace AF
open PySem PySem.Spec PyProof.Rows L2
/-- a dict that is looked at, or is looked at again -/
def kLk2 (Q : VK) (x : V) (H : Hp) : Prop := ∃ d kvs, x = .ref d ∧ ((H d = some (.dK kvs) ∧ ∀ od, Q (.ref d) (upd H d (.frz od (.dK kvs)))) ∨ ((∃ od, H d = some (.frz od (.dK kvs))) ∧ Q (.ref d) H))
def tLk2 (td : TE) : TE := fun σ H Q => td σ H (kLk2 Q)
theorem pe_lk2 {X : Cx} {e : Expr} {td : TE} (h : PE X e td) : PE X e (tLk2 td) := by
  refine ⟨fun pins s σ H Q I hw => ?_⟩
  refine thn (h.run pins s σ H _ I hw) fun v s1 ⟨x, H1, I1, r, d, kvs, ex, q⟩ => ?_
  subst ex
  rcases q with ⟨hd, q⟩ | ⟨_, q⟩
  · obtain ⟨od, I2⟩ := I1.lock hd True.intro
    exact ⟨_, _, I2, r, q od⟩
  · exact ⟨_, _, I1, r, q⟩
instance {td : TE} {σ : L2.St} {H : Hp} {Q : VK} : Step (tLk2 td σ H Q) (td σ H (kLk2 Q)) := ⟨fun h => h⟩
/-- written or looked at -/
def Dm (H : Hp) (d : Addr) (kvs : List (Key × V)) : Prop := H d = some (.dK kvs) ∨ ∃ od, H d = some (.frz od (.dK kvs))
theorem g_lk2 {d : Addr} {kvs : List (Key × V)} {Q : VK} {H : Hp} (h : Dm H d kvs) (q : ∀ od H', UpX d H H' → H' d = some (.frz od (.dK kvs)) → Q (.ref d) H') : kLk2 Q (.ref d) H := by
  refine ⟨d, kvs, rfl, ?_⟩
  rcases h with h | ⟨od, h⟩
  · exact .inl ⟨h, fun od => q od _ UpX.set upd_same⟩
  · exact .inr ⟨⟨od, h⟩, q od _ (fun _ _ _ e => e) h⟩
theorem g_dgM {a : Addr} {z : Str} {kvs : List (Key × V)} {v : V} {Q : VK} {H : Hp} (h : Dm H a kvs) (e : valV kvs (.inr z) = some v) (q : Q v H) : kDG Q (.ref a) (.str z) H := by
  rcases h with h | ⟨od, h⟩
  · exact g_dg h e q
  · exact g_dgF h e q
theorem Dm.upX {x d : Addr} {kvs : List (Key × V)} {H H' : Hp} (u : UpX x H H') (n : d ≠ x) (h : Dm H d kvs) : Dm H' d kvs := by
  rcases h with h | ⟨od, h⟩
  · exact .inl (u _ _ n h)
  · exact .inr ⟨od, u _ _ n h⟩
theorem Dm.up {d : Addr} {kvs : List (Key × V)} {H H' : Hp} (u : Up H H') (h : Dm H d kvs) : Dm H' d kvs := by
  rcases h with h | ⟨od, h⟩
  · exact .inl (u _ _ h)
  · exact .inr ⟨od, u _ _ h⟩
section
variable {td : TE} {g : TG} {tt : TT} {te : TE} {vs : List Nat} {σ σ' : L2.St} {Q : VK} {H : Hp} {d : Addr} {o : Obj} {kvs : List (Key × V)}
def LcOk (J : It) (g : TG) (tt : TT) (te : TE) (vs : List Nat) (σ : L2.St) (Q : VK) (H1 : Hp) : Prop := ∀ D, H1 D = none → ∃ W : Nat → Nat → Hp → Prop, (∃ m, W 0 m (upd H1 D (.lst []))) ∧ ∀ i m H, W i m H →
  (J.stop i H ∧ Q (.ref D) H) ∨ (J.go i H ∧ ∃ Nx : Hp → Prop, (∀ H', Nx H' → ∃ m', m' < m ∧ W (i + 1) m' H') ∧ ∀ x H', J.yld i H x H' → g x (wipe σ vs) H' fun σ2 H2 => wipe σ2 vs = wipe σ vs ∧ tt σ2 H2 fun b H3 =>
    if b = true then te σ2 H3 fun y H4 => ∃ acc, H4 D = some (.lst acc) ∧ acc.length < sizeLine ∧ Nx (upd H4 D (.lst (acc ++ [y]))) else Nx H3)
def kLcK (g : TG) (tt : TT) (te : TE) (vs : List Nat) (σ : L2.St) (Q : VK) (x : V) (H1 : Hp) : Prop := ∃ d o, x = .ref d ∧ ((∃ kvs, H1 d = some (.frz o (.dK kvs)) ∧ LcOk (Itk d o kvs) g tt te vs σ Q H1) ∨ ∃ kvs, H1 d = some (.frz o (.dT kvs)) ∧ LcOk (Itkt d o kvs) g tt te vs σ Q H1)
instance : Step (tLc (iKeys (tLk2 td)) g tt te vs σ H Q) (td σ H (kLk2 (kLcK g tt te vs σ Q))) := ⟨fun h => h⟩
theorem g_lcK (hd : H d = some (.frz o (.dK kvs))) (q : ∀ D, H D = none → EachQ g tt te vs σ Q D (fun H => H d = some (.frz o (.dK kvs))) (kvs.map fun kv : Key × V => kV kv.1) (upd H D (.lst []))) : kLcK g tt te vs σ Q (.ref d) H := by
  refine ⟨d, o, rfl, .inl ⟨kvs, hd, fun D hD => lc_it (walk_keys (d := d) (o := o) (kvs := kvs)) (fun i H => EachQ g tt te vs σ Q D (fun H => H d = some (.frz o (.dK kvs))) ((kvs.map fun kv : Key × V => kV kv.1).drop i) H) (q D hD) (fun i H _ p => eachQ_in (In := fun H => H d = some (.frz o (.dK kvs))) p) (fun i x H H' hi p y => ?_) fun H p => ?_⟩⟩
  · obtain ⟨rfl, k, v, e, rfl⟩ := y
    have hi2 : i < (kvs.map fun kv : Key × V => kV kv.1).length := by rw [List.length_map]; exact hi
    have e2 : (kvs.map fun kv : Key × V => kV kv.1)[i] = kV k := by
      rw [List.getElem_map, (List.getElem?_eq_some_iff.mp e).2]
    rw [List.drop_eq_getElem_cons hi2, e2] at p
    exact p.2
  · rw [List.drop_eq_nil_of_le (by rw [List.length_map]; exact Nat.le_refl _)] at p
    exact p.2
end
/-! sorted(..) of the three marks -/
def mks : List Str := ["read", "written", "changed"]
theorem sorted3 {ys : List Str} (hp : ys.Perm mks) (hs : sortedS ys = true) : ys = (["changed", "read", "written"] : List Str) := by
  have hl := hp.length_eq
  have hm : ∀ y, y ∈ ys → y = "read" ∨ y = "written" ∨ y = "changed" := fun y hy => by
    have := hp.mem_iff.mp hy
    simpa [mks] using this
  match ys, hl with
  | [a, b, c], _ =>
    rcases hm a (by simp) with rfl | rfl | rfl <;> rcases hm b (by simp) with rfl | rfl | rfl <;> rcases hm c (by simp) with rfl | rfl | rfl <;> first
      | rfl
      | (exfalso; revert hs; decide +kernel)
      | (exfalso; revert hp; decide +kernel)
theorem g_sort3 {K : PySem.W.Frag} {H : Hp} {Q : VK} {a : Addr} (h : H a = some (.lst (mks.map V.str))) (q : ∀ p, H p = none → Q (.ref p) (upd H p (.lst [.str "changed", .str "read", .str "written"]))) : rSortedS K [.ref a] H Q := by
  refine ⟨a, mks, rfl, SqL.of h, by decide, fun ys p hp hs hn => ?_⟩
  rw [sorted3 hp hs]
  exact q p hn
end AF
/-! sets of tuples of numbers: made empty, one put in, asked *-/
namespace AF
open PySem PySem.Spec PyProof.Rows L2
section
variable {P : Program} {w : World} {A : Around} {E : Value → Shared → Prop} {s : Shared} {a : Addr} {L : List (Addr × List Int)} {es : Array (Int × Value)} {ep : Nat} {t : SetTable}
/-- the probe at a place of the way *-/
def prb (t : SetTable) (h : Int) (c : Nat) : SetTable.Probe := nth t.mask (runAt t.mask (SetTable.bits h % (t.mask + 1)) (SetTable.bits h)) c
theorem prb_add (t : SetTable) (h : Int) (c q : Nat) : nth t.mask (prb t h c) q = prb t h (c + q) := (nth_add t.mask c _ q).symm
theorem prb_j (t : SetTable) (h : Int) (c : Nat) : (prb t h c).j = way t.mask h c := rfl
theorem nth_dm (m : Nat) : ∀ (n : Nat) (p : SetTable.Probe), p.dummy = none → (nth m p n).dummy = none
  | 0, _, h => h
  | n + 1, p, h => nth_dm m n (adv m p) (by unfold adv; split <;> exact h)
theorem look_from (R : SetTR P w s.heap a L es ep t) {x : Addr} {k : List Int} (hx : IsT P w s.heap k x) (hu : A.units < cLine) {N : Nat} (few : N < 10 * SetTable.turns t.mask) (stop : way t.mask (thash P w k) N ∉ t.place.toList)
    (full : ∀ c, c < N → way t.mask (thash P w k) c ∈ t.place.toList) {Q : SetFound → Shared → Prop} (yes : ∀ i, k ∈ L.map (·.2) → Q (.there (some i)) s) (no : ∀ j, k ∉ L.map (·.2) → Q (.free j false) s) :
    ∀ (fuel c : Nat) (from_ : Option SetTable.Probe), from_.getD (t.probeStart (thash P w k)) = prb t (thash P w k) c → c ≤ N → N < fuel + c →
      (∀ (i : Nat) e, L[i]? = some e → e.2 = k → ∃ d, c ≤ d ∧ d < N ∧ t.place.toList[i]? = some (way t.mask (thash P w k) d)) → wpAny (model P w) A (setSearchFrom a (.ref x) (thash P w k) false fuel from_) Q E s
  | 0, c, _, _, le, lt, _ => by omega
  | fuel + 1, c, from_, beg, le, lt, ahead => by
    have ⟨o, ho, ex, od⟩ := R.ob
    rw [setSearchFrom_succ]
    refine wpAny_bind (wpAny_setState_of ho od R.fits (wp_if_neg R.gw ?_))
    have shape := go_spec t R.tab.ris R.tab.dm (fun i => (es[i]?.map (·.1)).getD 0) (thash P w k) (10 * SetTable.turns t.mask) (N - c) (prb t (thash P w k) c) (nth_dm _ _ _ rfl) (by omega)
      (fun q lq => by rw [prb_add, prb_j]; exact full _ (by omega)) (by rw [prb_add, prb_j, show c + (N - c) = N by omega]; exact stop)
    have hsh : ∀ {i : Nat} {e}, L[i]? = some e → (es[i]?.map (·.1)).getD 0 = thash P w e.2 := fun he => by rw [R.entry he]; rfl
    have pgo : t.probe (fun i => (es[i]?.map (·.1)).getD 0) (thash P w k) (from_.getD (t.probeStart (thash P w k))) = SetTable.probe.go t (fun i => (es[i]?.map (·.1)).getD 0) (thash P w k) (10 * SetTable.turns t.mask) (prb t (thash P w k) c) := by
      rw [beg]; rfl
    -- a place of the way behind this one holds what is asked for, if it is kept
    have later : ∀ q, (∀ p i', p < q → t.place.toList[i']? = some (nth t.mask (prb t (thash P w k) c) p).j → ((es[i']?.map Prod.fst).getD 0 : Int) ≠ thash P w k) → ∀ (i : Nat) e, L[i]? = some e → e.2 = k → ∃ d, c + q ≤ d ∧ d < N ∧ t.place.toList[i]? = some (way t.mask (thash P w k) d) := fun q pass i e hi hk => by
      obtain ⟨d, d1, d2, d3⟩ := ahead i e hi hk
      refine ⟨d, ?_, d2, d3⟩
      by_cases far : c + q ≤ d
      · exact far
      · have e5 : c + (d - c) = d := by omega
        exact absurd ((hsh hi).trans (congrArg (thash P w) hk)) (pass (d - c) i (by omega) (by rw [prb_add, prb_j, e5]; exact d3))
    dsimp only
    rw [pgo]
    rcases shape with ⟨q, i, lq, hat, hh, pass, met⟩ | ⟨pass, met⟩
    · rw [met]
      rw [prb_add, prb_j] at hat
      have hi : i < L.length := by
        have l1 := (List.getElem?_eq_some_iff.mp hat).1
        have l2 := R.tab.sz
        rw [List.length_map] at l2
        rw [Array.length_toList] at l1
        omega
      obtain ⟨e, he⟩ : ∃ e, L[i]? = some e := ⟨_, List.getElem?_eq_getElem hi⟩
      have em := List.mem_of_getElem? he
      have live : t.slot (nth t.mask (prb t (thash P w k) c) q).j = .live i := by
        rw [prb_add, prb_j]
        exact slot_live R.tab.ris hat
      have go : wpAny (model P w) A (searchRest a (.ref x) (thash P w k) false fuel es t (nth t.mask (prb t (thash P w k) c) q).j i (nth t.mask (prb t (thash P w k) c) (q + 1))) Q E s := by
        unfold searchRest
        rw [R.entry he]
        refine wpAny_bind (wpAny_holding (wpAny_eqBool_tuple hu (R.tup e em) hx (wpAny_bind (wpAny_setState_of ho od R.fits ?_))))
        refine wp_if_neg (by simp) ?_
        rw [sameMem]
        simp only [if_true, live, R.entry he]
        refine wpAny_bind (wpAny_isSame_ref_self (wpAny_bind (wpAny_pure ?_)))
        simp only [if_true]
        by_cases same : e.2 = k
        · refine wp_if_pos (by simp [same]) (wpAny_pure (yes i ?_))
          exact List.mem_map.mpr ⟨e, em, same⟩
        · refine wp_if_neg (by simp [same]) (look_from R hx hu few stop full yes no fuel (c + (q + 1)) _ (prb_add _ _ _ _) (by omega) (by omega) fun i2 e2 h2 k2 => ?_)
          obtain ⟨d, d1, d2, d3⟩ := later q pass i2 e2 h2 k2
          refine ⟨d, ?_, d2, d3⟩
          by_cases here : d = c + q
          · rw [here] at d3
            have s2 := slot_live R.tab.ris d3
            rw [prb_add, prb_j, s2] at live
            injection live with i3
            rw [i3, he] at h2
            exact absurd (by rw [Option.some.inj h2]; exact k2) same
          · omega
      by_cases hl : t.led = true
      · exact wp_if_neg (by simp [hl]) go
      · refine wp_if_pos (by simp [hl]) (wpAny_bind (seen_tup hx (fun y hy => ?_) (wp_if_neg (by decide) go)))
        obtain ⟨r, hr, rfl⟩ := List.mem_map.mp hy
        have inn : r ∈ es.toList := by
          have := (Array.mem_filter.mp (Array.mem_toList_iff.mp hr)).1
          exact Array.mem_toList_iff.mpr this
        rw [R.rows] at inn
        obtain ⟨z, hz, rfl⟩ := List.mem_map.mp inn
        exact ⟨z.2, z.1, rfl, R.tup z hz⟩
    · rw [met]
      refine wpAny_pure (no _ fun kept => ?_)
      obtain ⟨e, em, ek⟩ := List.mem_map.mp kept
      obtain ⟨i, hi, ei⟩ := List.getElem_of_mem em
      obtain ⟨d, d1, d2, _⟩ := later (N - c) pass i e (by rw [List.getElem?_eq_getElem hi, ei]) ek
      omega
/-- is it kept -/
theorem find_tup (R : SetTR P w s.heap a L es ep t) {x : Addr} {k : List Int} (hx : IsT P w s.heap k x) (hu : A.units < cLine) {Q : Option Nat → Shared → Prop} (yes : ∀ i, k ∈ L.map (·.2) → Q (some i) s) (no : k ∉ L.map (·.2) → Q none s) :
    wpAny (model P w) A (setFind a (.ref x) (thash P w k)) Q E s := by
  have ⟨o, ho, ex, od⟩ := R.ob
  have room := R.room
  obtain ⟨N, few, stop, full⟩ := R.tab.first (by rw [List.length_map]; omega) (thash P w k)
  have small : N < 100000 := by
    have turns : 10 * SetTable.turns t.mask ≤ 1420 := by
      unfold SetTable.turns
      rcases R.tab.mok with m | m | m <;> rw [m] <;> decide
    omega
  have search : wpAny (model P w) A (setSearch a (.ref x) (thash P w k)) (fun r s' => s' = s ∧ ((k ∈ L.map (·.2) ∧ ∃ i, r = .there (some i)) ∨ (k ∉ L.map (·.2) ∧ ∃ j, r = .free j false))) E s := by
    refine look_from R hx hu few stop full (fun i h => ⟨rfl, .inl ⟨h, i, rfl⟩⟩) (fun j h => ⟨rfl, .inr ⟨h, j, rfl⟩⟩) 100000 0 none rfl (Nat.zero_le _) (by omega) fun i e hi ek => ?_
    have he : (L.map fun p => thash P w p.2)[i]? = some (thash P w k) := by rw [List.getElem?_map, hi, ← ek]; rfl
    have li : i < t.place.toList.length := by
      have l1 := (List.getElem?_eq_some_iff.mp hi).1
      have l2 := R.tab.sz
      rw [List.length_map] at l2
      rw [Array.length_toList]
      omega
    obtain ⟨d, d1, d2⟩ := R.tab.before stop he (List.getElem?_eq_getElem li)
    exact ⟨d, Nat.zero_le _, d1, by rw [List.getElem?_eq_getElem li, d2]⟩
  unfold setFind setFindIn
  refine wpAny_bind (wpAny_setState_of ho od R.fits ?_)
  dsimp only
  refine wp_if_neg (by simp [byScan, Value.scannable]) ?_
  refine wpAny_bind (wpAny_mono search (fun r s' h => ?_) fun _ _ z => z)
  obtain ⟨rfl, ⟨h, i, rfl⟩ | ⟨h, j, rfl⟩⟩ := h
  · exact wpAny_pure (yes i h)
  · exact wpAny_pure (no h)
theorem contains_tup (R : SetTR P w s.heap a L es ep t) {x : Addr} {k : List Int} (hx : IsT P w s.heap k x) (hu : A.units + 3 < cLine) {Q : Bool → Shared → Prop} (h : ∀ tk, Q (decide (k ∈ L.map (·.2))) { s with toks := tk }) :
    wpAny (model P w) A (contains (.ref a) (.ref x)) Q E s := by
  have ⟨o, ho, ex, od⟩ := R.ob
  have ty : s.TypeIs (.ref a) "set" := ⟨o, ho, ex.1⟩
  unfold contains
  try with_reducible refine wpAny_holding ?_
  refine wpAny_bind (wpAny_specialOf ty PySem.F.slot_set_contains.lookup ?_)
  dsimp only
  refine wp_if_neg (fun z => ?_) ?_
  · rw [beq_builtin_none] at z
    cases z
  have body : wpAny (model P w) A (call (.builtin "set.__contains__") [.ref a, .ref x]) (fun v s' => v = .bool (decide (k ∈ L.map (·.2))) ∧ ∃ tk, s' = { s with toks := tk }) E s := by
    refine wpAny_call_entry PySem.F.slot_set_contains ty entry_set_contains ?_ (PySem.F.args_set_contains_2 _ _)
    unfold Builtin.«frozenset.__contains__»
    unfold Builtin.Frozenset.oneOther
    simp only [List.isEmpty_nil, bind_assoc]
    unfold Builtin.Frozenset.addrOf
    unfold Builtin.Frozenset.withSetAsKey
    unfold setContains
    refine wpAny_bind (wpAny_pure (wpAny_bind (wpAny_pure ?_)))
    dsimp only
    refine wpAny_bind (wpAny_tryCatch (wpAny_holding (wpAny_bind (wpAny_pyHash_tuple (show A.in1.units < cLine by show A.units + 1 < cLine; omega) hx (wpAny_bind ?_)))))
    refine find_tup (s := { s with toks := s.toks + (k.length + 1) }) R hx (show A.units + 1 < cLine by omega) (fun i m => ?_) fun m => ?_
    · exact wpAny_pure (wpAny_pure ⟨_, rfl, by rw [decide_eq_true m]; rfl, _, rfl⟩)
    · exact wpAny_pure (wpAny_pure ⟨_, rfl, by rw [decide_eq_false m]; rfl, _, rfl⟩)
  refine wpAny_bind (wpAny_callSpecialUnlessNone?_slot (name := Str.ofString "__contains__") ty PySem.F.slot_set_contains (wpAny_mono body (fun v s' z => ?_) fun _ _ z => z))
  obtain ⟨rfl, tk, rfl⟩ := z
  exact wpAny_truthy_bool (h tk)
end
section
variable {X : Cx}
theorem setTO_get {pins : List (Addr × Obj)} {σ : L2.St} {H : Hp} {s : Shared} {a : Addr} {L : List (Addr × List Int)} (I : Inv X pins σ H s) (ha : H a = some (SetTO X.prog X.w a L)) (ht : ∀ p ∈ L, SqT X.K H p.1 (p.2.map V.int)) : ∃ es ep t, SetTR X.prog X.w s.heap a L es ep t := by
  have R : SetT0 X.prog X.w s.heap a L := (I.hok a _ ha).1
  exact R.full fun p hp => I.isT (ht p hp)
/-- set() -/
def rSet0T (P : Program) (w : World) : List V → Hp → VK → Prop := fun xs H Q => xs = [] ∧ ∀ p, H p = none → Q (.ref p) (upd H p (SetTO P w p []))
theorem cr_set0T : CallR X (.type "set") (rSet0T X.prog X.w) := by
  intro pins s σ H xs us Q I r h
  obtain ⟨rfl, q⟩ := h
  cases r
  refine setR_new fun _ => ?_
  exact ⟨.ref _, upd H s.heap.objs.size (SetTO X.prog X.w s.heap.objs.size []), I.laid (t' := s.toks) (fun b u e => Heap.get?_push_of_some _ e) (Nat.le_refl _) (setTO_new (setTR_fresh (Heap.get?_push_size _ rfl)).t0), rfl, q _ (I.hok.fresh (Nat.le_refl _))⟩
/-- t in found -/
def rInT (K : PySem.W.Frag) (P : Program) (w : World) : R2 := fun x y H Q => ∃ (b a : Addr) (k : List Int) (L : List (Addr × List Int)), x = .ref b ∧ y = .ref a ∧ SqT K H b (k.map V.int) ∧ H a = some (SetTO P w a L) ∧ (∀ p ∈ L, SqT K H p.1 (p.2.map V.int)) ∧ Q (.bl (decide (k ∈ L.map (·.2)))) H
theorem op_inT (hu : X.A.units + 3 < cLine) : OpR X (compareOp .In) (rInT X.K X.prog X.w) := by
  intro pins s σ H x y v u Q I rx ry h
  obtain ⟨b, a, k, L, rfl, rfl, hb, ha, hL, q⟩ := h
  cases rx
  cases ry
  obtain ⟨es, ep, t, R⟩ := setTO_get I ha hL
  show wpAny _ _ (contains (.ref a) (.ref b) >>= fun z => pure (Value.bool z)) _ _ s
  refine wpAny_bind (contains_tup R (I.isT hb) hu fun tk => wpAny_pure ?_)
  exact ⟨.bl _, H, I.tok _, rfl, q⟩
/-- found.add(t) -/
def rSAddT (K : PySem.W.Frag) (P : Program) (w : World) : V → List V → Hp → VK → Prop := fun x xs H Q => ∃ (a b : Addr) (k : List Int) (L : List (Addr × List Int)), x = .ref a ∧ xs = [.ref b] ∧ H a = some (SetTO P w a L) ∧ SqT K H b (k.map V.int) ∧ (∀ p ∈ L, SqT K H p.1 (p.2.map V.int)) ∧ L.length + 1 < 64 ∧ k ∉ L.map (·.2) ∧
  ∀ L', L'.Perm ((b, k) :: L) → Q .non (upd H a (SetTO P w a L'))
theorem mt_saddT (hu : X.A.units + 3 < cLine) : MtR X "set.add" (rSAddT X.K X.prog X.w) := by
  intro pins s σ H x xs v us Q I rx rxs h
  obtain ⟨a, b, k, L, rfl, rfl, ha, hb, hL, few, new, q⟩ := h
  cases rx
  have eu := Vals.ref1 rxs
  subst eu
  obtain ⟨es, ep, t, R⟩ := setTO_get I ha hL
  have ⟨o, ho, ex, od⟩ := R.ob
  have ty : s.TypeIs (.ref a) "set" := ⟨o, ho, ex.1⟩
  refine wpAny_call_entry PySem.F.slot_set_add ty PySem.F.entry_set_add ?_ (PySem.F.args_set_add_2 _ _)
  unfold Builtin.«set.add»
  unfold Builtin.Frozenset.oneOther
  simp only [List.isEmpty_nil, bind_assoc]
  unfold Builtin.Frozenset.addrOf
  unfold setAdd
  refine wpAny_bind (wpAny_pure ?_)
  try dsimp only
  refine wpAny_bind (wpAny_pure ?_)
  try dsimp only
  refine wpAny_bind (wpAny_holding (wpAny_bind (wpAny_pyHash_tuple (show X.A.in1.units < cLine by show X.A.units + 1 < cLine; omega) (I.isT hb) ?_)))
  refine add_at (s := { s with toks := s.toks + (k.length + 1) }) R (I.isT hb) (show X.A.units + 1 < cLine by omega) few fun bb h' L' es' ep' t' sb R' _ pm => ?_
  have R0 := R'.t0
  have ⟨o2, ho2, _⟩ := R'.ob
  refine wpAny_pure ⟨_, rfl, .non, upd H a (SetTO X.prog X.w a L'), ?_, rfl, q L' (pm new)⟩
  exact I.write (e := a) (t' := s.toks + (k.length + 1)) (by rw [ha]; trivial) (.inl rfl) (fun b u hb hu => (sb.2 b hb).trans hu) ⟨o2, ho2⟩ (setTO_new R0)
end
end AF
/-! lists of tuples; comprehensions over lists of any length by a word of one's own *-/
namespace AF
open PySem PySem.Spec PyProof.Rows L2
/-- what stands stays, but for some that may be written -/
def UpS (S : Addr → Prop) (H H' : Hp) : Prop := ∀ b o, ¬ S b → H b = some o → H' b = some o
section
variable {S : Addr → Prop} {H H1 H2 H' : Hp} {x : Addr}
theorem UpS.rfl' : UpS S H H := fun _ _ _ h => h
theorem UpS.trans (a : UpS S H H1) (b : UpS S H1 H2) : UpS S H H2 := fun p o n h => b p o n (a p o n h)
theorem Up.toS (u : Up H H') : UpS S H H' := fun b o _ h => u b o h
theorem UpX.toS (u : UpX x H H') (h : S x) : UpS S H H' := fun b o n e => u b o (fun z => n (z ▸ h)) e
theorem UpS.setF {p : Addr} {o : HO} (u : UpS S H H') (h : H p = none) : UpS S H (upd H' p o) := fun b v n e => by
  rw [upd_ne (fun z => by rw [z, h] at e; cases e)]
  exact u _ _ n e
theorem UpS.setS {p : Addr} {o : HO} (u : UpS S H H') (h : S p) : UpS S H (upd H' p o) := fun b v n e => by
  rw [upd_ne (fun z : b = p => n (by rw [z]; exact h))]
  exact u _ _ n e
end
/-- a list's values are tuples of these -/
inductive Tls (H : Hp) : List V → List (List V) → Prop where
  | nil : Tls H [] []
  | cons {t : Addr} {xs : List V} {vs : List V} {xss : List (List V)} (h : H t = some (.tup xs)) (r : Tls H vs xss) : Tls H (.ref t :: vs) (xs :: xss)
section
variable {H H' : Hp} {S : Addr → Prop}
theorem Tls.upS (u : UpS S H H') (hS : ∀ b xs, S b → H b ≠ some (.tup xs)) : ∀ {vs : List V} {xss : List (List V)}, Tls H vs xss → Tls H' vs xss
  | _, _, .nil => .nil
  | _, _, .cons h r => .cons (u _ _ (fun z => hS _ _ z h) h) (Tls.upS u hS r)
theorem Tls.up (u : Up H H') {vs : List V} {xss : List (List V)} (h : Tls H vs xss) : Tls H' vs xss := h.upS (S := fun _ => False) u.toS (fun _ _ z => z.elim)
theorem Tls.upX {x : Addr} (u : UpX x H H') (hx : ∀ xs, H x ≠ some (.tup xs)) {vs : List V} {xss : List (List V)} (h : Tls H vs xss) : Tls H' vs xss := h.upS (S := fun b => b = x) (u.toS rfl) (fun b xs z => z ▸ hx xs)
theorem Tls.len : ∀ {vs : List V} {xss : List (List V)}, Tls H vs xss → vs.length = xss.length
  | _, _, .nil => rfl
  | _, _, .cons _ r => congrArg Nat.succ r.len
theorem Tls.append : ∀ {vs ws : List V} {xss yss : List (List V)}, Tls H vs xss → Tls H ws yss → Tls H (vs ++ ws) (xss ++ yss)
  | _, _, _, _, .nil, b => b
  | _, _, _, _, .cons h r, b => .cons h (r.append b)
theorem Tls.one {t : Addr} {xs : List V} (h : H t = some (.tup xs)) : Tls H [.ref t] [xs] := .cons h .nil
theorem Tls.get : ∀ {vs : List V} {xss : List (List V)} {i : Nat} {v : V}, Tls H vs xss → vs[i]? = some v → ∃ t xs, v = .ref t ∧ xss[i]? = some xs ∧ H t = some (.tup xs)
  | _, _, 0, _, .cons h _, e => by cases e; exact ⟨_, _, rfl, rfl, h⟩
  | _, _, i + 1, _, .cons _ r, e => r.get (i := i) (by simpa using e)
theorem Tls.at_ : ∀ {vs : List V} {xss : List (List V)} {i : Nat} {xs : List V}, Tls H vs xss → xss[i]? = some xs → ∃ t, vs[i]? = some (.ref t) ∧ H t = some (.tup xs)
  | _, _, 0, _, .cons h _, e => by cases e; exact ⟨_, rfl, h⟩
  | _, _, i + 1, _, .cons _ r, e => r.at_ (i := i) (by simpa using e)
theorem Tls.mem : ∀ {vs : List V} {xss : List (List V)} {v : V}, Tls H vs xss → v ∈ vs → ∃ t xs, v = .ref t ∧ xs ∈ xss ∧ H t = some (.tup xs)
  | _, _, _, .cons h r, e => by
    rcases List.mem_cons.mp e with rfl | e
    · exact ⟨_, _, rfl, .head _, h⟩
    · obtain ⟨t, xs, e1, e2, e3⟩ := r.mem e
      exact ⟨t, xs, e1, .tail _ e2, e3⟩
theorem Tls.take : ∀ {vs : List V} {xss : List (List V)} (n : Nat), Tls H vs xss → Tls H (vs.take n) (xss.take n)
  | _, _, _, .nil => by simp; exact .nil
  | _, _, 0, _ => .nil
  | _, _, n + 1, .cons h r => .cons h (r.take n)
end
/-- a comprehension: G tells, behind so many items, what is collected, and the heap; S are those that may be written on the way *-/
theorem lc_any {J : It} {g : TG} {tt : TT} {te : TE} {ks : List Nat} {σ : L2.St} {Q : VK} {H : Hp} {n : Nat} (S : Addr → Prop) (G : Nat → List V → Hp → Prop) (hS : ∀ b, S b → H b ≠ none) (hn : n ≤ 1000) (g0 : G 0 [] H)
    (ins : ∀ i acc H' p o, H p = none → G i acc H' → G i acc (upd H' p o)) (stop : ∀ acc H', G n acc H' → J.stop n H') (go : ∀ i acc H', i < n → G i acc H' → J.go i H')
    (step : ∀ i acc H' x H1, i < n → G i acc H' → J.yld i H' x H1 → ∀ (R : V → Hp → Prop) (N : Hp → Prop), (∀ y H4, UpS S H' H4 → G (i + 1) (acc ++ [y]) H4 → R y H4) → (∀ H3, UpS S H' H3 → G (i + 1) acc H3 → N H3) →
      g x (wipe σ ks) H1 fun σ2 H2 => wipe σ2 ks = wipe σ ks ∧ tt σ2 H2 fun b H3 => if b = true then te σ2 H3 R else N H3)
    (q : ∀ D acc H', H D = none → G n acc H' → H' D = some (.lst acc) → acc.length ≤ n → Q (.ref D) H') : LcOk J g tt te ks σ Q H := by
  intro D hD
  refine ⟨fun i m H' => m = n - i ∧ i ≤ n ∧ ∃ acc, G i acc H' ∧ H' D = some (.lst acc) ∧ acc.length ≤ i, ⟨n, rfl, Nat.zero_le _, [], ins _ _ _ _ _ hD g0, upd_same, Nat.zero_le _⟩, ?_⟩
  rintro i m H' ⟨rfl, hi, acc, hG, hl, hc⟩
  have nD : ¬ S D := fun z => hS _ z hD
  by_cases lt : i < n
  · refine .inr ⟨go i acc H' lt hG, fun H3 => ∃ acc, G (i + 1) acc H3 ∧ H3 D = some (.lst acc) ∧ acc.length ≤ i + 1, fun H3 h3 => ⟨n - (i + 1), by omega, rfl, lt, h3⟩, fun x H1 hy => ?_⟩
    refine step i acc H' x H1 lt hG hy _ _ (fun y H4 u4 g4 => ?_) fun H3 u3 g3 => ?_
    · have l4 := u4 _ _ nD hl
      exact ⟨acc, l4, line1000 (by omega), acc ++ [y], ins _ _ _ _ _ hD g4, upd_same, by rw [List.length_append]; exact Nat.succ_le_succ hc⟩
    · exact ⟨acc, g3, u3 _ _ nD hl, by omega⟩
  · have e : i = n := by omega
    subst e
    exact .inl ⟨stop acc H' hG, q D acc H' hD hG hl hc⟩
section
variable {K : PySem.W.Frag} {g : TG} {tt : TT} {te : TE} {ks : List Nat} {σ : L2.St} {Q : VK} {H : Hp} {a : Addr} {xs : List V} {ta : TA}
theorem g_lcLA (S : Addr → Prop) (G : Nat → List V → Hp → Prop) (hS : ∀ b, S b → H b ≠ none) (hn : xs.length ≤ 1000) (g0 : G 0 [] H) (ins : ∀ i acc H' p o, H p = none → G i acc H' → G i acc (upd H' p o)) (hl : ∀ i acc H', G i acc H' → SqL K H' a xs)
    (step : ∀ i acc H' x, xs[i]? = some x → G i acc H' → ∀ (R : V → Hp → Prop) (N : Hp → Prop), (∀ y H4, UpS S H' H4 → G (i + 1) (acc ++ [y]) H4 → R y H4) → (∀ H3, UpS S H' H3 → G (i + 1) acc H3 → N H3) →
      g x (wipe σ ks) H' fun σ2 H2 => wipe σ2 ks = wipe σ ks ∧ tt σ2 H2 fun b H3 => if b = true then te σ2 H3 R else N H3)
    (q : ∀ D acc H', H D = none → G xs.length acc H' → H' D = some (.lst acc) → acc.length ≤ xs.length → Q (.ref D) H') : kLcL K g tt te ks σ Q (.ref a) H :=
  ⟨a, rfl, ⟨xs, hl _ _ _ g0⟩, lc_any S G hS hn g0 ins (fun acc H' h => ⟨xs, hl _ _ _ h, Nat.le_refl _⟩) (fun i acc H' lt h => ⟨xs, xs[i], hl _ _ _ h, by simp [lt]⟩) (fun i acc H' x H1 lt h y R N hR hN => by
    obtain ⟨rfl, y⟩ := y
    exact step i acc _ x (y _ (hl _ _ _ h)) h R N hR hN) q⟩
theorem g_lcTA (S : Addr → Prop) (G : Nat → List V → Hp → Prop) (hS : ∀ b, S b → H b ≠ none) (hn : xs.length ≤ 1000) (g0 : G 0 [] H) (ins : ∀ i acc H' p o, H p = none → G i acc H' → G i acc (upd H' p o)) (hl : ∀ i acc H', G i acc H' → SqT K H' a xs)
    (step : ∀ i acc H' x, xs[i]? = some x → G i acc H' → ∀ (R : V → Hp → Prop) (N : Hp → Prop), (∀ y H4, UpS S H' H4 → G (i + 1) (acc ++ [y]) H4 → R y H4) → (∀ H3, UpS S H' H3 → G (i + 1) acc H3 → N H3) →
      g x (wipe σ ks) H' fun σ2 H2 => wipe σ2 ks = wipe σ ks ∧ tt σ2 H2 fun b H3 => if b = true then te σ2 H3 R else N H3)
    (q : ∀ D acc H', H D = none → G xs.length acc H' → H' D = some (.lst acc) → acc.length ≤ xs.length → Q (.ref D) H') : kLcT K g tt te ks σ Q (.ref a) H :=
  ⟨a, rfl, ⟨xs, hl _ _ _ g0⟩, lc_any S G hS hn g0 ins (fun acc H' h => ⟨xs, hl _ _ _ h, Nat.le_refl _⟩) (fun i acc H' lt h => ⟨xs, xs[i], hl _ _ _ h, by simp [lt]⟩) (fun i acc H' x H1 lt h y R N hR hN => by
    obtain ⟨rfl, y⟩ := y
    exact step i acc _ x (y _ (hl _ _ _ h)) h R N hR hN) q⟩
/-- .. for i, x in enumerate(t) *-/
def kLcE (K : PySem.W.Frag) (g : TG) (tt : TT) (te : TE) (ks : List Nat) (σ : L2.St) (Q : VK) (vs : List V) (H1 : Hp) : Prop := ∃ a xs, vs = [.ref a] ∧ SqT K H1 a xs ∧ LcOk (Iten K a) g tt te ks σ Q H1
instance : Step (tLc (iEnumT K ta) g tt te ks σ H Q) (ta σ H (kLcE K g tt te ks σ Q)) := ⟨fun h => h⟩
theorem g_lcEA (S : Addr → Prop) (G : Nat → List V → Hp → Prop) (hS : ∀ b, S b → H b ≠ none) (hn : xs.length ≤ 1000) (g0 : G 0 [] H) (ins : ∀ i acc H' p o, H p = none → G i acc H' → G i acc (upd H' p o)) (hl : ∀ i acc H', G i acc H' → SqT K H' a xs)
    (step : ∀ i acc H' x T, xs[i]? = some x → G i acc H' → H' T = none → ∀ (R : V → Hp → Prop) (N : Hp → Prop), (∀ y H4, UpS S H' H4 → G (i + 1) (acc ++ [y]) H4 → R y H4) → (∀ H3, UpS S H' H3 → G (i + 1) acc H3 → N H3) →
      g (.ref T) (wipe σ ks) (upd H' T (.tup [.int (i : Nat), x])) fun σ2 H2 => wipe σ2 ks = wipe σ ks ∧ tt σ2 H2 fun b H3 => if b = true then te σ2 H3 R else N H3)
    (q : ∀ D acc H', H D = none → G xs.length acc H' → H' D = some (.lst acc) → acc.length ≤ xs.length → Q (.ref D) H') : kLcE K g tt te ks σ Q [.ref a] H :=
  ⟨a, xs, rfl, hl _ _ _ g0, lc_any S G hS hn g0 ins (fun acc H' h => ⟨xs, hl _ _ _ h, Nat.le_refl _⟩) (fun i acc H' lt h => ⟨xs, xs[i], hl _ _ _ h, by simp [lt]⟩) (fun i acc H' x H1 lt h y R N hR hN => by
    obtain ⟨T, z, rfl, hT, rfl, y⟩ := y
    exact step i acc H' z T (y _ (hl _ _ _ h)) h hT R N hR hN) q⟩
/-- .. over a range that is told -/
theorem g_lcRA (S : Addr → Prop) (G : Nat → List V → Hp → Prop) {n : Nat} (hS : ∀ b, S b → H b ≠ none) (hn : n ≤ 1000) (g0 : G 0 [] H) (ins : ∀ i acc H' p o, H p = none → G i acc H' → G i acc (upd H' p o))
    (step : ∀ i acc H', i < n → G i acc H' → ∀ (R : V → Hp → Prop) (N : Hp → Prop), (∀ y H4, UpS S H' H4 → G (i + 1) (acc ++ [y]) H4 → R y H4) → (∀ H3, UpS S H' H3 → G (i + 1) acc H3 → N H3) →
      g (.int (i : Nat)) (wipe σ ks) H' fun σ2 H2 => wipe σ2 ks = wipe σ ks ∧ tt σ2 H2 fun b H3 => if b = true then te σ2 H3 R else N H3)
    (q : ∀ D acc H', H D = none → G n acc H' → H' D = some (.lst acc) → acc.length ≤ n → Q (.ref D) H') : kLcRg g tt te ks σ Q (n : Int) H := by
  have lc : LcOk (Itr 0 n) g tt te ks σ Q H := lc_any S G hS hn g0 ins (fun acc H' h => Nat.le_refl n) (fun i acc H' lt h => lt) (fun i acc H' x H1 lt h y R N hR hN => by
    obtain ⟨rfl, rfl⟩ := y
    have e : (0 : Int) + (i : Int) = (i : Int) := Int.zero_add _
    rw [e]
    exact step i acc _ lt h R N hR hN) q
  intro D hD
  rw [Int.toNat_natCast]
  exact lc D hD
end
/-! the filtered and mapped list that is collected -/
theorem take_fm {α β : Type} (f : α → Option β) {l : List α} {i : Nat} {x : α} (h : l[i]? = some x) : (l.take (i + 1)).filterMap f = (l.take i).filterMap f ++ (f x).toList := by
  have e : l.take (i + 1) = l.take i ++ [x] := by rw [List.take_add_one, h]; rfl
  rw [e, List.filterMap_append]
  cases hf : f x <;> simp [hf]
end AF
/-! isinstance(x, (list, tuple)) *-/
namespace AF
open PySem PySem.Spec PyProof.Rows L2
def tIsLT (K : PySem.W.Frag) (te : TE) : TE := fun σ H Q => te σ H fun x H1 => (∃ t xs, x = .ref t ∧ (SqT K H1 t xs ∨ SqL K H1 t xs)) ∧ ∀ T, H1 T = none → Q (.bl true) (upd H1 T (.tup [.ty "list", .ty "tuple"]))
def kIsLT (K : PySem.W.Frag) (Q : VK) (x : V) (H1 : Hp) : Prop := (∃ t xs, x = .ref t ∧ (SqT K H1 t xs ∨ SqL K H1 t xs)) ∧ ∀ T, H1 T = none → Q (.bl true) (upd H1 T (.tup [.ty "list", .ty "tuple"]))
instance {K : PySem.W.Frag} {te : TE} {σ : L2.St} {H : Hp} {Q : VK} : Step (tIsLT K te σ H Q) (te σ H (kIsLT K Q)) := ⟨fun h => h⟩
theorem ans_t (t : Addr) : AnswersAll (fun s => s.TypeIs (.ref t) "tuple") (.ref t) [.type "list", .type "tuple"] [false, true] := ⟨.of_false_tuple (by decide +kernel) PySem.F.isi_meta_list PySem.F.sub_tuple_list, .of_true PySem.F.isi_meta_tuple PySem.F.isi_sub_tuple, trivial⟩
theorem ans_l (t : Addr) : AnswersAll (fun s => s.TypeIs (.ref t) "list") (.ref t) [.type "list", .type "tuple"] [true, false] := ⟨.of_true PySem.F.isi_meta_list (by rw [isSubtype_type]; kernel_rfl), .of_false_list (by decide +kernel) PySem.F.isi_meta_tuple PySem.F.sub_list_tuple, trivial⟩
section
variable {X : Cx} {p pos tpos : Pos} {e : Expr} {es : List Expr} {te : TE} {k : Nat}
theorem pe_isiLT (he : PE X e te) (hg : Gl X "isinstance") (hm : X.mg "isinstance" = none) (hes : PA X es (tCons (tC (.ty "list")) (tCons (tC (.ty "tuple")) tNil))) (h1 : starEach [e, .Tuple es k tpos] X.env = (false, eval e X.env) :: starEach [.Tuple es k tpos] X.env := by rfl)
    (h2 : starEach [.Tuple es k tpos] X.env = (false, eval (.Tuple es k tpos) X.env) :: starEach [] X.env := by rfl) (h3 : (backTo pos (starEach [.Tuple es k tpos] X.env)).any (·.1) = false := by rfl) : PE X (.Call (.Name "isinstance" p) [e, .Tuple es k tpos] [] pos) (tIsLT X.K te) := by
  constructor
  intro pins s σ H Q I h
  refine wpAny_Call_Name_kw (ld_blt I hg hm PyProof.Rows.boot_isinstance (PyProof.Rows.callWith_builtin1 ?_ h1 h3) (by decide) (by decide))
  rw [h1, show backTo pos ((false, eval e X.env) :: starEach [.Tuple es k tpos] X.env) = (false, eval e X.env) :: backTo pos (starEach [.Tuple es k tpos] X.env) from rfl]
  refine Calls.spliced_cons (thn (he.run pins s σ H _ I h) ?_)
  rintro u s1 ⟨x, H1, I1, r1, ⟨t, xs, rfl, hx⟩, q⟩
  cases (show u = Value.ref t from r1)
  rw [h2, show backTo pos ((false, eval (.Tuple es k tpos) X.env) :: starEach [] X.env) = (false, eval (.Tuple es k tpos) X.env) :: backTo pos (starEach [] X.env) from rfl]
  refine Calls.spliced_cons (wpAny_Tuple_spliced (thn (hes.run tpos pins s1 σ H1 (fun ys H' => ys = [.ty "list", .ty "tuple"] ∧ H' = H1) I1 ⟨rfl, rfl⟩) ?_))
  rintro us s2 ⟨ys, H2, I2, r2, rfl, rfl⟩
  have eu : us = [Value.type "list", Value.type "tuple"] := vals_ty2 r2
  subst eu
  have room : 2 ≤ sizeLine := by rw [sizeLine_eq]; decide
  refine ⟨room, Calls.spliced_nil ?_⟩
  have new := I2.hok.fresh (Nat.le_refl s2.heap.objs.size)
  have I3 := I2.laid (a := s2.heap.objs.size) (o := .tup [.ty "list", .ty "tuple"]) (h' := s2.heap.push { cls := .type "tuple", data := .seq [Value.type "list", Value.type "tuple"].toArray }) (t' := s2.toks) (fun b u e => Heap.get?_push_of_some _ e) (Nat.le_refl _)
    ⟨room, _, r2, ⟨_, Heap.get?_push_size _ rfl, rfl, _, rfl⟩⟩
  have fin : ∀ tk, EP X pins σ Q (.bool true) { s2 with heap := s2.heap.push { cls := .type "tuple", data := .seq [Value.type "list", Value.type "tuple"].toArray }, toks := tk } := fun tk => ⟨.bl true, _, I3.tok tk, rfl, q _ new⟩
  rcases hx with hx | hx
  · obtain ⟨_, _, ⟨o, ho, hc, _⟩, _⟩ := I2.tuple hx
    exact call_isinstance (isinstance_tuple (Tx := "tuple") (tp := s2.heap.objs.size) (ans_t t)) ⟨⟨o, Heap.get?_push_of_some _ ho, hc⟩, Heap.get?_push_size _ rfl, fin⟩
  · obtain ⟨_, _, pl, _⟩ := I2.list hx
    obtain ⟨o, ho, hc, _⟩ := pl.isList
    exact call_isinstance (isinstance_tuple (Tx := "list") (tp := s2.heap.objs.size) (ans_l t)) ⟨⟨o, Heap.get?_push_of_some _ ho, hc⟩, Heap.get?_push_size _ rfl, fin⟩
end
end AF
/-! a list or a tuple; own __len__; while a list is not empty *-/
namespace AF
open PySem PySem.Spec PyProof.Rows L2
def iOr (w1 w2 : TI) : TI := fun σ H R => w1 σ H R ∨ w2 σ H R
theorem pi_or {X : Cx} {tg e : Expr} {w1 w2 : TI} (a : PI X tg e w1) (b : PI X tg e w2) : PI X tg e (iOr w1 w2) := ⟨fun pins s σ H R I h => h.elim (a.run pins s σ H R I) (b.run pins s σ H R I)⟩
theorem for_inl {w1 w2 : TI} {g : TG} {tb : TS} {D : Ends} {σ : L2.St} {H : Hp} (h : tFor w1 g tb D σ H) : tFor (iOr w1 w2) g tb D σ H := .inl h
theorem for_inr {w1 w2 : TI} {g : TG} {tb : TS} {D : Ends} {σ : L2.St} {H : Hp} (h : tFor w2 g tb D σ H) : tFor (iOr w1 w2) g tb D σ H := .inr h
theorem lc_inl {w1 w2 : TI} {g : TG} {tt : TT} {te : TE} {ks : List Nat} {σ : L2.St} {H : Hp} {Q : VK} (h : tLc w1 g tt te ks σ H Q) : tLc (iOr w1 w2) g tt te ks σ H Q := .inl h
theorem lc_inr {w1 w2 : TI} {g : TG} {tt : TT} {te : TE} {ks : List Nat} {σ : L2.St} {H : Hp} {Q : VK} (h : tLc w2 g tt te ks σ H Q) : tLc (iOr w1 w2) g tt te ks σ H Q := .inr h
/-- own __len__ -/
structure LenO (K : PySem.W.Frag) (C f : Addr) : Prop where
  at_ : PySem.W.findIn K (.ref C) "__len__" = some (some (.ref f))
  fn : PySem.W.isFn K (.ref f) = true
def rLenO (C : Addr) (sp : Sp) (E : XK) : List V → Hp → VK → Prop := fun xs H Q => ∃ a dx fs, xs = [.ref a] ∧ H a = some (.ins C dx fs) ∧ sp [.ref a] H (fun z H' => ∃ n : Nat, n < 1000000 ∧ z = .int n ∧ Q (.int n) H') E
theorem cl_lenO {X : Cx} {k : Nat} {f C : Addr} {ps : List Str} {sp : Sp} {E : XK} (B : LenO X.K C f) (D : Dn X.prog X.w X.K X.mg X.base k f ps sp) (hr : Room (k + 2) X.A) (hx : Passes (L2.CX X.prog X.w) X E) : CallR X (.builtin "len") (rLenO C sp E) := by
  intro pins s σ H xs us Q I r h
  obtain ⟨a, dx, fs, rfl, ha, q⟩ := h
  obtain ⟨fd, F, b⟩ := D.ex
  obtain ⟨u, rfl, rx⟩ := vals1 r
  cases rx
  obtain ⟨mA, O, _⟩ := ins_get I.hok ha
  obtain ⟨od, J, _⟩ := O.look
  obtain ⟨m, hF⟩ := I.fr
  refine PySem.Calls.call_function_entry PySem.kind_len PySem.plain_len PySem.entry_len (PySem.args_len1 _) ?_
  unfold Builtin.«len»
  refine wpAny_bind (m := oneArg "len" _) (wpAny_pure ?_)
  have hr2 : Room k X.A.in1 := (show Room (k + 1) X.A.in1 from Room.in1 hr).mono (Nat.le_succ _)
  refine wpAny_bind (m := callSpecial? (.ref a) (Str.ofString "__len__")) (PySem.W.special_fn (I.ok.mod.kin.keeps hF.keep) J B.at_ (beq_iff_eq.mp B.fn) (wpAny_mono (run_fnA F hr2 b I.env0.in1 hx I (Paired.cons (show RelV (.ref a) (.ref a) from rfl) .nil) q) (fun w s' z => ?_) fun _ _ x => x))
  obtain ⟨z', H', I', rz, n, hn, ec, qz⟩ := z
  subst ec
  obtain ⟨tk, rfl⟩ := rz
  refine wpAny_bind (wpAny_holding (wpAny_pure ?_))
  refine wpAny_bind (wpAny_letGo ?_)
  show wpAny _ _ (if ((n : Nat) : Int) < 0 then _ else _) _ _ _
  rw [if_neg (by omega)]
  show wpAny _ _ (if ((n : Nat) : Int) ≥ 2 ^ 63 then _ else _) _ _ _
  rw [if_neg (by omega)]
  exact wpAny_bind (wpAny_mkInt (wpAny_pure ⟨_, rfl, .int n, H', I'.tok _, ⟨_, rfl⟩, qz⟩))
section
variable {σ : L2.St} {H : Hp} {Q : VK} {K : PySem.W.Frag} {te : TE} {QB : Bool → Hp → Prop} {a : Addr} {xs : List V} {ta : TA}
/-- a list or a tuple -/
def Sqe (H : Hp) (a : Addr) (xs : List V) : Prop := H a = some (.lst xs) ∨ H a = some (.tup xs)
theorem Sqe.up {H' : Hp} (u : Up H H') (h : Sqe H a xs) : Sqe H' a xs := h.imp (u _ _) (u _ _)
theorem Sqe.q (h : Sqe H a xs) : SqL K H a xs ∨ SqT K H a xs := h.imp SqL.of SqT.of
theorem Sqe.tl (h : Sqe H a xs) : SqT K H a xs ∨ SqL K H a xs := h.elim (fun z => .inr (SqL.of z)) fun z => .inl (SqT.of z)
theorem g_lene (h : Sqe H a xs) (q : Q (.int xs.length) H) : rLenQ K [.ref a] H Q := ⟨a, xs, rfl, h.q, q⟩
theorem g_ixe {i : Nat} {v : V} (h : Sqe H a xs) (e : xs[i]? = some v) (q : Q v H) : rIxA K (.ref a) (.int (i : Nat)) H Q := by
  rcases h with h | h
  · exact .inr ⟨a, xs, _, _, rfl, rfl, SqL.of h, ai_nat e, q⟩
  · exact .inl (g_ixT h (ai_nat e) q)
theorem g_kIsLT (h : Sqe H a xs) (q : ∀ H', Up H H' → Q (.bl true) H') : kIsLT K Q (.ref a) H := ⟨⟨a, xs, rfl, h.tl⟩, fun T hT => q _ (Up.new hT)⟩
/-- a test by a value's truth -/
def tTr (K : PySem.W.Frag) (te : TE) : TT := fun σ H Q => te σ H fun x H' => ∃ k, TruV K x H' k ∧ Q k H'
theorem pt_tr {X : Cx} {a : Expr} (ha : PE X a te) (he : ∀ whole, isTrue a X.env whole = (do let v ← whole; standAt a.pos; holding [v] (truthy v)) := by intro _; rfl) : PT X a (tTr X.K te) := pt_truth ha he
def kTr (K : PySem.W.Frag) (QB : Bool → Hp → Prop) (x : V) (H' : Hp) : Prop := ∃ k, TruV K x H' k ∧ QB k H'
instance : Step (tTr K te σ H QB) (te σ H (kTr K QB)) := ⟨fun h => h⟩
theorem g_trL {l : List V} (h : H a = some (.lst l)) (q : QB (!l.isEmpty) H) : kTr K QB (.ref a) H := ⟨_, .inl ⟨l, SqL.of h, rfl⟩, q⟩
/-- tuple(x) -/
def rTupE (K : PySem.W.Frag) : List V → Hp → VK → Prop := fun xs H Q => ∃ p ys, xs = [.ref p] ∧ ((SqL K H p ys ∧ ∀ l, H l = none → Q (.ref l) (upd H l (.tup ys))) ∨ (SqT K H p ys ∧ Q (.ref p) H))
theorem cl_tupE {X : Cx} : CallR X (.type "tuple") (rTupE X.K) := call_tuple_of
theorem g_tupE (h : Sqe H a xs) (q : ∀ r H', Up H H' → H' r = some (.tup xs) → Q (.ref r) H') : rTupE K [.ref a] H Q := by
  refine ⟨a, xs, rfl, h.imp (fun z => ⟨SqL.of z, fun l hl => q l _ (Up.new hl) upd_same⟩) fun z => ⟨SqT.of z, q a H Up.rfl' z⟩⟩
theorem g_bmL {T : List V} {r : V → List V → Hp → VK → Prop} {t : TA} (h : H a = some (.lst T)) (q : t σ H fun vs H2 => r (.ref a) vs H2 Q) : kBM K "list" r t σ Q (.ref a) H := ⟨.inl ⟨rfl, T, SqL.of h⟩, q⟩
theorem g_apE {y : V} (h : H a = some (.lst xs)) (hn : xs.length < 1000) (q : Q .non (upd H a (.lst (xs ++ [y])))) : rAppend (.ref a) [y] H Q := ⟨a, xs, y, rfl, rfl, h, small1000 (Nat.le_of_lt hn), q⟩
def kBM0 (K : PySem.W.Frag) (T : String) (r : V → List V → Hp → VK → Prop) (Q : VK) (x : V) (H : Hp) : Prop := tyV K T x H ∧ r x [] H Q
instance {T : String} {r : V → List V → Hp → VK → Prop} : Step (tBM0 K T r te σ H Q) (te σ H (kBM0 K T r Q)) := ⟨fun h => h⟩
theorem g_pop {y : V} (h : H a = some (.lst (xs ++ [y]))) (q : Q y (upd H a (.lst xs))) : kBM0 K "list" rPop Q (.ref a) H := ⟨.inl ⟨rfl, _, SqL.of h⟩, a, xs ++ [y], y, rfl, rfl, h, by simp, by rw [List.dropLast_concat]; exact q⟩
end
def tSAddT (K : PySem.W.Frag) (P : Program) (w : World) (to : TE) (t : TA) : TE := fun σ H Q => to σ H fun x H1 => (∃ a L, x = V.ref a ∧ H1 a = some (SetTO P w a L) ∧ ∀ p ∈ L, SqT K H1 p.1 (p.2.map V.int)) ∧ t σ H1 fun xs H2 => rSAddT K P w x xs H2 Q
def kSAddT (K : PySem.W.Frag) (P : Program) (w : World) (t : TA) (σ : L2.St) (Q : VK) (x : V) (H1 : Hp) : Prop := (∃ a L, x = V.ref a ∧ H1 a = some (SetTO P w a L) ∧ ∀ p ∈ L, SqT K H1 p.1 (p.2.map V.int)) ∧ t σ H1 fun xs H2 => rSAddT K P w x xs H2 Q
instance {K : PySem.W.Frag} {P : Program} {w : World} {to : TE} {t : TA} {σ : L2.St} {H : Hp} {Q : VK} : Step (tSAddT K P w to t σ H Q) (to σ H (kSAddT K P w t σ Q)) := ⟨fun h => h⟩
theorem pe_saddT {X : Cx} {o e : Expr} {es : List Expr} {to : TE} {t : TA} {apos cpos : Pos} (hu : X.A.units + 3 < cLine) (ho : PE X o to) (ha : PA X (e :: es) t)
    (hbase : attributeBase o "add" X.env (eval o X.env) = eval o X.env := by rfl)
    (hfew : ((backTo cpos (starEach (e :: es) X.env)).all (fun x => !x.1) && (backToKw cpos (keywordEach [] X.env)).all (fun x => x.1.isSome)
      && decide ((e :: es).length + ([] : List Keyword).length + (if ([] : List Keyword).isEmpty then 0 else 1) < 30)) = true := by rfl)
    (hline : (apos.endLine == cpos.line) = true := by rfl) (hs : starEach (e :: es) X.env = (false, eval e X.env) :: starEach es X.env := by rfl) (hplain : (backTo cpos (starEach es X.env)).any (·.1) = false := by rfl) :
    PE X (.Call (.Attribute o "add" apos) (e :: es) [] cpos) (tSAddT X.K X.prog X.w to t) := by
  refine ⟨fun pins s σ H Q I h => ?_⟩
  refine wpAny_Call_method_late hbase hfew hline rfl (thn (ho.run pins s σ H _ I h) fun v s1 ⟨x, H1, I1, r1, ty, q1⟩ => ?_)
  obtain ⟨a, L, rfl, hka, htl⟩ := ty
  obtain ⟨es', ep, tb, R⟩ := setTO_get I1 hka htl
  have ⟨ob, hob, ex, od⟩ := R.ob
  cases r1
  refine ⟨"set", "set.add", PySem.F.plainAttrs_set, PySem.F.slot_set_add, PySem.F.type_set_add, ⟨ob, hob, ex.1⟩, (fun b e => by cases e; exact ⟨ob, hob, ex.2.1⟩), ?_⟩
  have hA := ha.run cpos pins s1 σ H1 _ I1 q1
  rw [hs] at hA ⊢
  refine Calls.callWith_builtin (by show (false || (backTo cpos (starEach es X.env)).any (·.1)) = false; rw [hplain] <;> rfl) (Calls.evalArgs_plain ?_)
  exact thn hA fun us s2 ⟨vs, H2, I2, r2, q2⟩ => mt_saddT hu pins s2 σ H2 (.ref a) vs (.ref a) us Q I2 rfl r2 q2
end AF
/-! lists of tuples of numbers, texts and none, compared -/
namespace AF
open PySem PySem.Spec PyProof.Rows L2
def dat : V → PyData
  | .int i => .int i
  | .str x => .str x
  | _ => .none
def FlatV (v : V) : Prop := (∃ i, v = .int i) ∨ v = .non ∨ ∃ x, v = .str x ∧ (PyData.str x).canLay0 = true
def Flat (xs : List V) : Prop := ∀ v, v ∈ xs → FlatV v
def datT (xs : List V) : PyData := .tuple (xs.map dat)
def Flats (xss : List (List V)) : Prop := ∀ xs, xs ∈ xss → Flat xs
section
variable {K : PySem.W.Frag} {H : Hp}
theorem flat_dp {v : V} (h : FlatV v) : Dp K H v (dat v) := by
  rcases h with ⟨i, rfl⟩ | rfl | ⟨x, rfl, _⟩
  · exact .int i
  · exact .non
  · exact .str x
theorem flats_dp : ∀ {xs : List V}, Flat xs → DpAll K H xs (xs.map dat)
  | [], _ => .nil
  | v :: xs, h => .cons (flat_dp (h v (.head _))) (flats_dp fun w hw => h w (.tail _ hw))
theorem tls_dp : ∀ {vs : List V} {xss : List (List V)}, Tls H vs xss → Flats xss → DpAll K H vs (xss.map datT)
  | _, _, .nil, _ => .nil
  | _, _, .cons h r, f => .cons (.tup (SqT.of h) (flats_dp (f _ (.head _)))) (tls_dp r fun xs hx => f xs (.tail _ hx))
theorem flat_can {v : V} (h : FlatV v) : (dat v).canLay0 = true := by
  rcases h with ⟨i, rfl⟩ | rfl | ⟨x, rfl, h⟩
  · rfl
  · rfl
  · exact h
theorem flat_dep {v : V} (h : FlatV v) : (dat v).depth = 0 := by
  rcases h with ⟨i, rfl⟩ | rfl | ⟨x, rfl, h⟩ <;> rfl
theorem flats_can : ∀ {xs : List V}, Flat xs → PyData.canLayAll0 (xs.map dat) = true
  | [], _ => rfl
  | v :: xs, h => by
    show ((dat v).canLay0 && PyData.canLayAll0 (xs.map dat)) = true
    rw [flat_can (h v (.head _)), flats_can fun w hw => h w (.tail _ hw)]; rfl
theorem flats_dep : ∀ {xs : List V}, Flat xs → PyData.depthAll (xs.map dat) ≤ 0
  | [], _ => Nat.le_refl _
  | v :: xs, h => by
    show max (dat v).depth (PyData.depthAll (xs.map dat)) ≤ 0
    have := flats_dep (xs := xs) fun w hw => h w (.tail _ hw)
    rw [flat_dep (h v (.head _))]; omega
theorem tls_can : ∀ {xss : List (List V)}, Flats xss → PyData.canLayAll0 (xss.map datT) = true
  | [], _ => rfl
  | xs :: r, h => by
    show (PyData.canLayAll0 (xs.map dat) && PyData.canLayAll0 (r.map datT)) = true
    rw [flats_can (h xs (.head _)), tls_can fun w hw => h w (.tail _ hw)]; rfl
theorem tls_dep : ∀ {xss : List (List V)}, Flats xss → PyData.depthAll (xss.map datT) ≤ 1
  | [], _ => Nat.zero_le _
  | xs :: r, h => by
    show max (PyData.depthAll (xs.map dat) + 1) (PyData.depthAll (r.map datT)) ≤ 1
    have h1 := flats_dep (h xs (.head _))
    have h2 := tls_dep (xss := r) fun w hw => h w (.tail _ hw)
    omega
theorem shT {xss : List (List V)} (h : Flats xss) : SeqAt.shaped (.tuple (xss.map datT)) = true := by
  show (PyData.canLayAll0 (xss.map datT) && decide (PyData.depthAll (xss.map datT) + 1 ≤ 64)) = true
  have := tls_dep h
  rw [tls_can h, decide_eq_true (by omega)]; rfl
theorem shL {xss : List (List V)} (h : Flats xss) : SeqAt.shaped (.list (xss.map datT)) = true := by
  show (PyData.canLayAll0 (xss.map datT) && decide (PyData.depthAll (xss.map datT) + 1 ≤ 64)) = true
  have := tls_dep h
  rw [tls_can h, decide_eq_true (by omega)]; rfl
theorem shLL {xss yss : List (List V)} (h : Flats xss) (h' : Flats yss) : SeqAt.shaped (.list [.list (xss.map datT), .list (yss.map datT)]) = true := by
  show ((PyData.canLayAll0 (xss.map datT) && (PyData.canLayAll0 (yss.map datT) && true)) && decide (max (PyData.depthAll (xss.map datT) + 1) (max (PyData.depthAll (yss.map datT) + 1) 0) + 1 ≤ 64)) = true
  have := tls_dep h
  have := tls_dep h'
  rw [tls_can h, tls_can h', decide_eq_true (by omega)]; rfl
theorem dat_eqv {v w : V} (h : FlatV v) (h' : FlatV w) : PyData.eqv (dat v) (dat w) = decide (v = w) := by
  rcases h with ⟨i, rfl⟩ | rfl | ⟨x, rfl, _⟩ <;> rcases h' with ⟨j, rfl⟩ | rfl | ⟨y, rfl, _⟩ <;> simp [dat, PyData.eqv] <;> rfl
theorem dats_eqv : ∀ {xs ys : List V}, Flat xs → Flat ys → PyData.eqvAll (xs.map dat) (ys.map dat) = decide (xs = ys)
  | [], [], _, _ => rfl
  | [], _ :: _, _, _ => by simp [PyData.eqvAll]
  | _ :: _, [], _, _ => by simp [PyData.eqvAll]
  | v :: xs, w :: ys, h, h' => by
    show (PyData.eqv (dat v) (dat w) && PyData.eqvAll (xs.map dat) (ys.map dat)) = _
    rw [dat_eqv (h v (.head _)) (h' w (.head _)), dats_eqv (fun z hz => h z (.tail _ hz)) fun z hz => h' z (.tail _ hz), Bool.eq_iff_iff]
    simp
theorem datTs_eqv : ∀ {xss yss : List (List V)}, Flats xss → Flats yss → PyData.eqvAll (xss.map datT) (yss.map datT) = decide (xss = yss)
  | [], [], _, _ => rfl
  | [], _ :: _, _, _ => by simp [PyData.eqvAll]
  | _ :: _, [], _, _ => by simp [PyData.eqvAll]
  | xs :: r, ys :: t, h, h' => by
    show (PyData.eqvAll (xs.map dat) (ys.map dat) && PyData.eqvAll (r.map datT) (t.map datT)) = _
    rw [dats_eqv (h xs (.head _)) (h' ys (.head _)), datTs_eqv (fun z hz => h z (.tail _ hz)) fun z hz => h' z (.tail _ hz), Bool.eq_iff_iff]
    simp
theorem g_eqTT {a b : Addr} {vs ws : List V} {xss yss : List (List V)} {Q : VK} (ha : H a = some (.tup vs)) (ta : Tls H vs xss) (hb : H b = some (.tup ws)) (tb : Tls H ws yss) (f : Flats xss) (g : Flats yss) (q : Q (.bl (decide (xss = yss))) H) : rEqD K (.ref a) (.ref b) H Q :=
  ⟨_, _, .tup (SqT.of ha) (tls_dp ta f), .tup (SqT.of hb) (tls_dp tb g), shT f, shT g, by rw [show PyData.eqv (.tuple (xss.map datT)) (.tuple (yss.map datT)) = PyData.eqvAll (xss.map datT) (yss.map datT) from rfl, datTs_eqv f g]; exact q⟩
theorem g_neLL {a b : Addr} {vs ws : List V} {xss yss : List (List V)} {Q : VK} (ha : H a = some (.lst vs)) (ta : Tls H vs xss) (hb : H b = some (.lst ws)) (tb : Tls H ws yss) (f : Flats xss) (g : Flats yss) (q : Q (.bl (!decide (xss = yss))) H) : rNeD K (.ref a) (.ref b) H Q :=
  ⟨_, _, .lst (SqL.of ha) (tls_dp ta f), .lst (SqL.of hb) (tls_dp tb g), shL f, shL g, by rw [show PyData.eqv (.list (xss.map datT)) (.list (yss.map datT)) = PyData.eqvAll (xss.map datT) (yss.map datT) from rfl, datTs_eqv f g]; exact q⟩
theorem g_eqLL {a b : Addr} {vs ws : List V} {xss yss : List (List V)} {Q : VK} (ha : H a = some (.lst vs)) (ta : Tls H vs xss) (hb : H b = some (.lst ws)) (tb : Tls H ws yss) (f : Flats xss) (g : Flats yss) (q : Q (.bl (decide (xss = yss))) H) : rEqD K (.ref a) (.ref b) H Q :=
  ⟨_, _, .lst (SqL.of ha) (tls_dp ta f), .lst (SqL.of hb) (tls_dp tb g), shL f, shL g, by rw [show PyData.eqv (.list (xss.map datT)) (.list (yss.map datT)) = PyData.eqvAll (xss.map datT) (yss.map datT) from rfl, datTs_eqv f g]; exact q⟩
/-- [a, b] != [c, d], lists of tuples the same -/
theorem g_ne2 {p q a b c d : Addr} {vs ws vs' ws' : List V} {xss yss : List (List V)} {Q : VK} (hp : H p = some (.lst [.ref a, .ref b])) (hq : H q = some (.lst [.ref c, .ref d])) (ha : H a = some (.lst vs)) (ta : Tls H vs xss) (hb : H b = some (.lst ws)) (tb : Tls H ws yss)
    (hc : H c = some (.lst vs')) (tc : Tls H vs' xss) (hd : H d = some (.lst ws')) (td : Tls H ws' yss) (f : Flats xss) (g : Flats yss) (k : Q (.bl false) H) : rNeD K (.ref p) (.ref q) H Q :=
  ⟨_, _, .lst (SqL.of hp) (.cons (.lst (SqL.of ha) (tls_dp ta f)) (.cons (.lst (SqL.of hb) (tls_dp tb g)) .nil)), .lst (SqL.of hq) (.cons (.lst (SqL.of hc) (tls_dp tc f)) (.cons (.lst (SqL.of hd) (tls_dp td g)) .nil)), shLL f g, shLL f g, by rw [eqv_self (shLL f g)]; exact k⟩
end
/-- a comprehension whose word knows the new list's place -/
theorem lc_anyD {J : It} {g : TG} {tt : TT} {te : TE} {ks : List Nat} {σ : L2.St} {Q : VK} {H : Hp} {n : Nat} (S : Addr → Prop) (G : Addr → Nat → List V → Hp → Prop) (hS : ∀ b, S b → H b ≠ none) (hn : n ≤ 1000) (g0 : ∀ D, H D = none → G D 0 [] (upd H D (.lst [])))
    (ins : ∀ D i acc H' ys zs, H D = none → H' D = some (.lst ys) → G D i acc H' → G D i acc (upd H' D (.lst zs))) (stop : ∀ D acc H', G D n acc H' → J.stop n H') (go : ∀ D i acc H', i < n → G D i acc H' → J.go i H')
    (step : ∀ D i acc H' x H1, i < n → H D = none → H' D = some (.lst acc) → G D i acc H' → J.yld i H' x H1 → ∀ (R : V → Hp → Prop) (N : Hp → Prop), (∀ y H4, UpS S H' H4 → G D (i + 1) (acc ++ [y]) H4 → R y H4) → (∀ H3, UpS S H' H3 → G D (i + 1) acc H3 → N H3) →
      g x (wipe σ ks) H1 fun σ2 H2 => wipe σ2 ks = wipe σ ks ∧ tt σ2 H2 fun b H3 => if b = true then te σ2 H3 R else N H3)
    (q : ∀ D acc H', H D = none → G D n acc H' → H' D = some (.lst acc) → acc.length ≤ n → Q (.ref D) H') : LcOk J g tt te ks σ Q H := by
  intro D hD
  refine ⟨fun i m H' => m = n - i ∧ i ≤ n ∧ ∃ acc, G D i acc H' ∧ H' D = some (.lst acc) ∧ acc.length ≤ i, ⟨n, rfl, Nat.zero_le _, [], g0 D hD, upd_same, Nat.zero_le _⟩, ?_⟩
  rintro i m H' ⟨rfl, hi, acc, hG, hl, hc⟩
  have nD : ¬ S D := fun z => hS _ z hD
  by_cases lt : i < n
  · refine .inr ⟨go D i acc H' lt hG, fun H3 => ∃ acc, G D (i + 1) acc H3 ∧ H3 D = some (.lst acc) ∧ acc.length ≤ i + 1, fun H3 h3 => ⟨n - (i + 1), by omega, rfl, lt, h3⟩, fun x H1 hy => ?_⟩
    refine step D i acc H' x H1 lt hD hl hG hy _ _ (fun y H4 u4 g4 => ?_) fun H3 u3 g3 => ?_
    · have l4 := u4 _ _ nD hl
      exact ⟨acc, l4, line1000 (by omega), acc ++ [y], ins D _ _ _ _ _ hD l4 g4, upd_same, by rw [List.length_append]; exact Nat.succ_le_succ hc⟩
    · exact ⟨acc, g3, u3 _ _ nD hl, by omega⟩
  · have e : i = n := by omega
    subst e
    exact .inl ⟨stop D acc H' hG, q D acc H' hD hG hl hc⟩
section
variable {K : PySem.W.Frag} {g : TG} {tt : TT} {te : TE} {ks : List Nat} {σ : L2.St} {Q : VK} {H : Hp} {a : Addr} {xs : List V} {ta : TA}
theorem g_lcLD (S : Addr → Prop) (G : Addr → Nat → List V → Hp → Prop) (hS : ∀ b, S b → H b ≠ none) (hn : xs.length ≤ 1000) (ha : SqL K H a xs) (g0 : ∀ D, H D = none → G D 0 [] (upd H D (.lst []))) (ins : ∀ D i acc H' ys zs, H D = none → H' D = some (.lst ys) → G D i acc H' → G D i acc (upd H' D (.lst zs))) (hl : ∀ D i acc H', G D i acc H' → SqL K H' a xs)
    (step : ∀ D i acc H' x, H D = none → H' D = some (.lst acc) → xs[i]? = some x → G D i acc H' → ∀ (R : V → Hp → Prop) (N : Hp → Prop), (∀ y H4, UpS S H' H4 → G D (i + 1) (acc ++ [y]) H4 → R y H4) → (∀ H3, UpS S H' H3 → G D (i + 1) acc H3 → N H3) →
      g x (wipe σ ks) H' fun σ2 H2 => wipe σ2 ks = wipe σ ks ∧ tt σ2 H2 fun b H3 => if b = true then te σ2 H3 R else N H3)
    (q : ∀ D acc H', H D = none → G D xs.length acc H' → H' D = some (.lst acc) → acc.length ≤ xs.length → Q (.ref D) H') : kLcL K g tt te ks σ Q (.ref a) H :=
  ⟨a, rfl, ⟨xs, ha⟩, lc_anyD S G hS hn g0 ins (fun D acc H' h => ⟨xs, hl _ _ _ _ h, Nat.le_refl _⟩) (fun D i acc H' lt h => ⟨xs, xs[i], hl _ _ _ _ h, by simp [lt]⟩) (fun D i acc H' x H1 lt hD hd h y R N hR hN => by
    obtain ⟨rfl, y⟩ := y
    exact step D i acc _ x hD hd (y _ (hl _ _ _ _ h)) h R N hR hN) q⟩
theorem g_lcTD (S : Addr → Prop) (G : Addr → Nat → List V → Hp → Prop) (hS : ∀ b, S b → H b ≠ none) (hn : xs.length ≤ 1000) (ha : SqT K H a xs) (g0 : ∀ D, H D = none → G D 0 [] (upd H D (.lst []))) (ins : ∀ D i acc H' ys zs, H D = none → H' D = some (.lst ys) → G D i acc H' → G D i acc (upd H' D (.lst zs))) (hl : ∀ D i acc H', G D i acc H' → SqT K H' a xs)
    (step : ∀ D i acc H' x, H D = none → H' D = some (.lst acc) → xs[i]? = some x → G D i acc H' → ∀ (R : V → Hp → Prop) (N : Hp → Prop), (∀ y H4, UpS S H' H4 → G D (i + 1) (acc ++ [y]) H4 → R y H4) → (∀ H3, UpS S H' H3 → G D (i + 1) acc H3 → N H3) →
      g x (wipe σ ks) H' fun σ2 H2 => wipe σ2 ks = wipe σ ks ∧ tt σ2 H2 fun b H3 => if b = true then te σ2 H3 R else N H3)
    (q : ∀ D acc H', H D = none → G D xs.length acc H' → H' D = some (.lst acc) → acc.length ≤ xs.length → Q (.ref D) H') : kLcT K g tt te ks σ Q (.ref a) H :=
  ⟨a, rfl, ⟨xs, ha⟩, lc_anyD S G hS hn g0 ins (fun D acc H' h => ⟨xs, hl _ _ _ _ h, Nat.le_refl _⟩) (fun D i acc H' lt h => ⟨xs, xs[i], hl _ _ _ _ h, by simp [lt]⟩) (fun D i acc H' x H1 lt hD hd h y R N hR hN => by
    obtain ⟨rfl, y⟩ := y
    exact step D i acc _ x hD hd (y _ (hl _ _ _ _ h)) h R N hR hN) q⟩
end
theorem g_lcRD {g : TG} {tt : TT} {te : TE} {ks : List Nat} {σ : L2.St} {Q : VK} {H : Hp} (S : Addr → Prop) (G : Addr → Nat → List V → Hp → Prop) {n : Nat} (hS : ∀ b, S b → H b ≠ none) (hn : n ≤ 1000) (g0 : ∀ D, H D = none → G D 0 [] (upd H D (.lst []))) (ins : ∀ D i acc H' ys zs, H D = none → H' D = some (.lst ys) → G D i acc H' → G D i acc (upd H' D (.lst zs)))
    (step : ∀ D i acc H', H D = none → H' D = some (.lst acc) → i < n → G D i acc H' → ∀ (R : V → Hp → Prop) (N : Hp → Prop), (∀ y H4, UpS S H' H4 → G D (i + 1) (acc ++ [y]) H4 → R y H4) → (∀ H3, UpS S H' H3 → G D (i + 1) acc H3 → N H3) →
      g (.int (i : Nat)) (wipe σ ks) H' fun σ2 H2 => wipe σ2 ks = wipe σ ks ∧ tt σ2 H2 fun b H3 => if b = true then te σ2 H3 R else N H3)
    (q : ∀ D acc H', H D = none → G D n acc H' → H' D = some (.lst acc) → acc.length ≤ n → Q (.ref D) H') : kLcRg g tt te ks σ Q (n : Int) H := by
  have lc : LcOk (Itr 0 n) g tt te ks σ Q H := lc_anyD S G hS hn g0 ins (fun D acc H' h => Nat.le_refl n) (fun D i acc H' lt h => lt) (fun D i acc H' x H1 lt hD hd h y R N hR hN => by
    obtain ⟨rfl, rfl⟩ := y
    have e : (0 : Int) + (i : Int) = (i : Int) := Int.zero_add _
    rw [e]
    exact step D i acc _ hD hd lt h R N hR hN) q
  intro D hD
  rw [Int.toNat_natCast]
  exact lc D hD
theorem Tls.lstAt {H : Hp} {D : Addr} {ys zs : List V} (hD : H D = some (.lst ys)) {vs : List V} {xss : List (List V)} (h : Tls H vs xss) : Tls (upd H D (.lst zs)) vs xss :=
  h.upX (x := D) UpX.set (fun xs z => by rw [hD] at z; cases z)
end AF
/-! slices of tuples, sums of tuples, a law's source by a word -/
namespace AF
open PySem PySem.Spec PyProof.Rows L2
theorem un65 {k : Nat} {A : Around} (r : Room k A) : A.units + 65 < cLine := by have := r.un; omega
theorem sl_tupK {X : Cx} {K : PySem.W.Frag} (hK : X.K = K := by rfl) : SlR X (rSlT K) := hK ▸ sl_tup
section
variable {K : PySem.W.Frag} {σ : L2.St} {H : Hp} {Q : VK} {te tb : TE} {r : V → Option Int → Option Int → Hp → VK → Prop} {a b : Addr} {xs ys : List V}
def kSlN (r : V → Option Int → Option Int → Hp → VK → Prop) (tb : TE) (σ : L2.St) (Q : VK) (x : V) (H1 : Hp) : Prop := tb σ H1 fun y H3 => ∃ i, y = .int i ∧ r x none (some i) H3 Q
instance : Step (L2.tSl r te tNoPart (tPart tb) σ H Q) (te σ H (kSlN r tb σ Q)) := ⟨fun h => h⟩
def kSlS (r : V → Option Int → Option Int → Hp → VK → Prop) (tb : TE) (σ : L2.St) (Q : VK) (x : V) (H1 : Hp) : Prop := tb σ H1 fun y H3 => ∃ i, y = .int i ∧ r x (some i) none H3 Q
instance : Step (L2.tSl r te (tPart tb) tNoPart σ H Q) (te σ H (kSlS r tb σ Q)) := ⟨fun h => h⟩
theorem g_slN {n : Nat} (h : H a = some (.tup xs)) (hn : n < xs.length) (q : ∀ p, H p = none → Q (.ref p) (upd H p (.tup (xs.take n)))) : kSlN (rSlT K) (tC (.int (n : Nat))) σ Q (.ref a) H := by
  refine ⟨_, rfl, a, xs, rfl, SqT.of h, ?_, ?_⟩
  · rintro ⟨_, z⟩
    rw [HT.sIx_nat] at z
    omega
  · intro p hp
    have e : cutV xs none (some (n : Int)) = xs.take n := by
      unfold cutV
      rw [HT.sIx_none, HT.sIx_nat, List.drop_zero, Nat.sub_zero, Nat.min_eq_left (Nat.le_of_lt hn)]
    rw [e]
    exact q p hp
theorem g_slS {n : Nat} (h : H a = some (.tup xs)) (hn : n < xs.length) (h0 : 0 < n) (q : ∀ p, H p = none → Q (.ref p) (upd H p (.tup (xs.drop n)))) : kSlS (rSlT K) (tC (.int (n : Nat))) σ Q (.ref a) H := by
  refine ⟨_, rfl, a, xs, rfl, SqT.of h, ?_, ?_⟩
  · rintro ⟨z, _⟩
    rw [HT.sIx_nat] at z
    omega
  · intro p hp
    have e : cutV xs (some (n : Int)) none = xs.drop n := by
      unfold cutV
      rw [HT.sIx_none, HT.sIx_nat, Nat.min_eq_left (Nat.le_of_lt hn)]
      exact List.take_of_length_le (by rw [List.length_drop]; exact Nat.le_refl _)
    rw [e]
    exact q p hp
theorem g_slL (h : H a = some (.lst xs)) (q : ∀ p, H p = none → Q (.ref p) (upd H p (.lst xs.dropLast))) : kSlN (rSlL K) (tC (.int (-1))) σ Q (.ref a) H := by
  refine ⟨_, rfl, a, xs, rfl, SqL.of h, fun p hp => ?_⟩
  have e : cutV xs none (some (-1)) = xs.dropLast := by
    unfold cutV
    have e2 : HT.sIx xs.length xs.length (some (-1)) = xs.length - 1 := by
      show (if (-1 : Int) < 0 then ((-1 : Int) + (xs.length : Int)).toNat else min (-1 : Int).toNat xs.length) = _
      rw [if_pos (by decide)]
      omega
    rw [HT.sIx_none, List.drop_zero, Nat.sub_zero, List.dropLast_eq_take, e2]
  rw [e]
  exact q p hp
theorem g_catT (ha : H a = some (.tup xs)) (hb : H b = some (.tup ys)) (hx : xs ≠ []) (hy : ys ≠ []) (hn : xs.length + ys.length ≤ 1000) (q : ∀ p, H p = none → Q (.ref p) (upd H p (.tup (xs ++ ys)))) : rCatT K (.ref a) (.ref b) H Q :=
  ⟨a, b, xs, ys, rfl, rfl, SqT.of ha, SqT.of hb, hx, Nat.le_of_lt (small1000 hn), fun z => absurd z hy, fun _ => q⟩
end
/-- the law's source -/
def Src (H : Hp) (s : Addr) : Prop := ∃ n z, H s = some (.lst [.int n, .int z]) ∧ Sd n z
theorem chX {H H' : Hp} {s : Addr} (c : Ch [s] H H') : UpX s H H' := fun b o n e => c b o e (by simpa using n)
theorem Src.up {H H' : Hp} {s : Addr} (u : Up H H') (h : Src H s) : Src H' s := by
  obtain ⟨n, z, a, b⟩ := h
  exact ⟨n, z, u _ _ a, b⟩
theorem Src.upX {H H' : Hp} {s x : Addr} (u : UpX x H H') (n : s ≠ x) (h : Src H s) : Src H' s := by
  obtain ⟨i, z, a, b⟩ := h
  exact ⟨i, z, u _ _ n a, b⟩
theorem Src.notup {H : Hp} {s : Addr} (h : Src H s) : ∀ xs, H s ≠ some (.tup xs) := fun xs z => by
  obtain ⟨i, y, a, b⟩ := h
  rw [a] at z; cases z
theorem Src.ne {H : Hp} {s t : Addr} {xs : List V} (h : Src H s) (ht : H t = some (.tup xs)) : t ≠ s := fun z => h.notup xs (z ▸ ht)
theorem use_drawX {H : Hp} {s : Addr} {m : Int} {Q : VK} {E : XK} (h : Src H s) (h1 : 1 ≤ m) (h2 : m ≤ 10 ^ 60) (q : ∀ (d : Int) H', 0 ≤ d → d < m → UpX s H H' → Src H' s → Q (.int d) H') : spDraw [.ref s, .int m] H Q E := by
  obtain ⟨n, z, a, b⟩ := h
  exact ⟨s, n, z, m, rfl, a, b, h1, h2, fun d n' s' H' c h p1 p2 p3 => q d H' p1 p2 (chX c) ⟨n', s', h, p3⟩⟩
theorem use_pickX {H : Hp} {s p : Addr} {xs : List V} {Q : VK} {E : XK} (h : Src H s) (hp : H p = some (.lst xs)) (h1 : 1 ≤ xs.length) (h2 : xs.length ≤ 1000) (ne : p ≠ s) (q : ∀ v H', v ∈ xs → UpX s H H' → Src H' s → Q v H') : spPick [.ref s, .ref p] H Q E := by
  obtain ⟨n, z, a, b⟩ := h
  exact ⟨s, p, n, z, xs, rfl, a, b, hp, h1, h2, ne, fun v n' s' H' c h p1 p3 => q v H' p1 (chX c) ⟨n', s', h, p3⟩⟩
end AF
/-! comprehensions over zip of two tuples; a tuple's end -/
namespace AF
open PySem PySem.Spec PyProof.Rows L2 RZ
section
variable {K : PySem.W.Frag} {g : TG} {tt : TT} {te : TE} {ks : List Nat} {σ : L2.St} {Q : VK} {H : Hp} {a b : Addr} {xs ys : List V} {ta : TA}
def kLcZ (K : PySem.W.Frag) (g : TG) (tt : TT) (te : TE) (ks : List Nat) (σ : L2.St) (Q : VK) (vs : List V) (H1 : Hp) : Prop := ∃ a b xs ys, vs = [.ref a, .ref b] ∧ ((SqL K H1 a xs ∧ SqL K H1 b ys ∧ LcOk (Itz K a b) g tt te ks σ Q H1) ∨ (SqT K H1 a xs ∧ SqT K H1 b ys ∧ LcOk (ItzT K a b) g tt te ks σ Q H1))
instance : Step (tLc (iZipA K ta) g tt te ks σ H Q) (ta σ H (kLcZ K g tt te ks σ Q)) := ⟨fun h => h⟩
theorem g_lcZD (S : Addr → Prop) (G : Addr → Nat → List V → Hp → Prop) (hS : ∀ b, S b → H b ≠ none) (hn : ys.length ≤ 1000) (hl : ys.length ≤ xs.length) (ha : SqT K H a xs) (hb : SqT K H b ys) (g0 : ∀ D, H D = none → G D 0 [] (upd H D (.lst []))) (ins : ∀ D i acc H' us vs, H D = none → H' D = some (.lst us) → G D i acc H' → G D i acc (upd H' D (.lst vs)))
    (h1 : ∀ D i acc H', G D i acc H' → SqT K H' a xs) (h2 : ∀ D i acc H', G D i acc H' → SqT K H' b ys)
    (step : ∀ D i acc H' x y T, H D = none → H' D = some (.lst acc) → xs[i]? = some x → ys[i]? = some y → H' T = none → G D i acc H' → ∀ (R : V → Hp → Prop) (N : Hp → Prop), (∀ y H4, UpS S H' H4 → G D (i + 1) (acc ++ [y]) H4 → R y H4) → (∀ H3, UpS S H' H3 → G D (i + 1) acc H3 → N H3) →
      g (.ref T) (wipe σ ks) (upd H' T (.tup [x, y])) fun σ2 H2 => wipe σ2 ks = wipe σ ks ∧ tt σ2 H2 fun b H3 => if b = true then te σ2 H3 R else N H3)
    (q : ∀ D acc H', H D = none → G D ys.length acc H' → H' D = some (.lst acc) → acc.length ≤ ys.length → Q (.ref D) H') : kLcZ K g tt te ks σ Q [.ref a, .ref b] H :=
  ⟨a, b, xs, ys, rfl, .inr ⟨ha, hb, lc_anyD S G hS hn g0 ins (fun D acc H' h => ⟨xs, ys, h1 _ _ _ _ h, h2 _ _ _ _ h, .inr (Nat.le_refl _)⟩) (fun D i acc H' lt h => ⟨xs, ys, xs[i], ys[i], h1 _ _ _ _ h, h2 _ _ _ _ h, by simp, by simp [lt]⟩) (fun D i acc H' x H1 lt hD hd h y R N hR hN => by
    obtain ⟨T, u, v, rfl, hT, rfl, y1, y2⟩ := y
    exact step D i acc H' u v T hD hd (y1 _ (h1 _ _ _ _ h)) (y2 _ (h2 _ _ _ _ h)) hT h R N hR hN) q⟩⟩
theorem g_slE {n : Nat} (h : H a = some (.tup xs)) (hn : n ≤ xs.length) (h0 : 0 < n) (q : ∀ p, H p = none → Q (.ref p) (upd H p (.tup (xs.drop n)))) : kSlS (rSlT K) (tC (.int (n : Nat))) σ Q (.ref a) H := by
  refine ⟨_, rfl, a, xs, rfl, SqT.of h, ?_, ?_⟩
  · rintro ⟨z, _⟩
    rw [HT.sIx_nat] at z
    omega
  · intro p hp
    have e : cutV xs (some (n : Int)) none = xs.drop n := by
      unfold cutV
      rw [HT.sIx_none, HT.sIx_nat, Nat.min_eq_left hn]
      exact List.take_of_length_le (by rw [List.length_drop]; exact Nat.le_refl _)
    rw [e]
    exact q p hp
end
/-! t[::-1] -/
section
variable {prog : Program} {w : World} {A : Around} {E : Value → Shared → Prop} {s : Shared}
open HT in
theorem sliceApplied_rev {sl : Addr} {vs : Value} {n : Nat} {Q : Int × Int × Nat → Shared → Prop} (hs : s.heap.IsSliceOf sl .none .none vs) (ps : IsPart vs (some (-1)))
    (h : Q ((n : Int) - 1, -1, n) s) : wpAny (model prog w) A (Builtin.Slice.sliceApplied (.ref sl) (pure (n : Int))) Q E s := by
  obtain ⟨os, hos, hcs, hds⟩ := id hs
  unfold Builtin.Slice.sliceApplied Builtin.Slice.sliceFields
  refine wpAny_bind (wpAny_bind (wpAny_field hos hds (x := .none) rfl (wpAny_bind (wpAny_field hos hds (x := .none) rfl (wpAny_bind (wpAny_field hos hds (x := vs) rfl (wpAny_pure ?_)))))))
  refine wpAny_bind (slicePart_ ps ?_)
  show wpAny _ _ (if ((-1 : Int) == 0) = true then _ else _) _ _ s
  rw [if_neg (by decide)]
  refine wpAny_bind (slicePart_ .none (wpAny_bind (slicePart_ .none (wpAny_bind (wpAny_pure ?_)))))
  show wpAny _ _ (match Builtin.Slice.sliceAdjust none none (-1) (n : Int) with | (lo, hi) => pure (lo, (-1 : Int), Builtin.Slice.slicePlaces lo hi (-1))) _ _ s
  have e : Builtin.Slice.sliceAdjust none none (-1) (n : Int) = ((n : Int) - 1, -1) := by
    unfold Builtin.Slice.sliceAdjust
    simp
  rw [e]
  have e2 : Builtin.Slice.slicePlaces ((n : Int) - 1) (-1) (-1) = n := by
    unfold Builtin.Slice.slicePlaces
    simp
    omega
  show wpAny _ _ (pure ((n : Int) - 1, (-1 : Int), Builtin.Slice.slicePlaces ((n : Int) - 1) (-1) (-1))) _ _ s
  rw [e2]
  exact wpAny_pure h
theorem fm_congr {α β : Type} {f g : α → Option β} : ∀ {l : List α}, (∀ x, x ∈ l → f x = g x) → l.filterMap f = l.filterMap g
  | [], _ => rfl
  | x :: l, h => by
    rw [List.filterMap_cons, List.filterMap_cons, h x (.head _), fm_congr fun y hy => h y (.tail _ hy)]
theorem pick_rev (xs : Array Value) : ((List.range xs.size).filterMap fun (m : Nat) => xs[(((xs.size : Nat) : Int) - 1 + (m : Int) * (-1)).toNat]?).toArray = xs.toList.reverse.toArray := by
  congr 1
  have e : (List.range xs.size).filterMap (fun (m : Nat) => xs[(((xs.size : Nat) : Int) - 1 + (m : Int) * (-1)).toNat]?) = ((List.range xs.size).map (fun k => xs.size - 1 - k)).filterMap (xs[·]?) := by
    rw [List.filterMap_map]
    apply fm_congr
    intro m hm
    show _ = xs[xs.size - 1 - m]?
    have : (((xs.size : Nat) : Int) - 1 + (m : Int) * (-1)).toNat = xs.size - 1 - m := by
      have := List.mem_range.mp hm
      omega
    rw [this]
  rw [e, PySem.W.krv_range, List.filterMap_reverse, PySem.W.krv_all]
open HT in
theorem getItem_tuple_rev {t sl : Addr} {items : Array Value} {vs : Value} {Q : Value → Shared → Prop} (ht : IsTup s.heap t items) (hs : s.heap.IsSliceOf sl .none .none vs) (ps : IsPart vs (some (-1)))
    (h : Q (.ref s.heap.objs.size) { s with heap := s.heap.push { cls := .type "tuple", data := .seq items.toList.reverse.toArray } })
    (hsz : items.size ≤ sizeLine) : wpAny (model prog w) A (getItem (.ref t) (.ref sl)) Q E s := by
  have htake : sizeOk (.seq items.toList.reverse.toArray) := by
    show items.toList.reverse.toArray.size ≤ sizeLine
    rw [List.size_toArray, List.length_reverse, Array.length_toList]
    omega
  obtain ⟨os, hos, hcs, hds⟩ := id hs
  have hTs : s.TypeIs (.ref sl) "slice" := ⟨os, hos, hcs⟩
  unfold getItem
  try with_reducible refine wpAny_holding ?_
  first | refine wpAny_bind (wpAny_pure ?_) | skip
  refine wpAny_bind (wpAny_sequenceKey ht.typeIs (by decide) ?_)
  refine wpAny_bind (wpAny_callSpecial?_slot (name := Str.ofString "__getitem__") ht.typeIs PyProof.Rows.slot_tuple_getitem
    (wpAny_call_entry PyProof.Rows.slot_tuple_getitem ht.typeIs entry_tuple_getitem ?_ (args_tuple_getitem _ _)))
  show wpAny _ _ (Builtin.Tuple.tupleItemsOf (.ref t) >>= _) _ _ s
  refine wpAny_bind (tupleItemsOf_ ht ?_)
  refine wpAny_bind (wpAny_typeOf hTs ?_)
  rw [if_pos (by decide)]
  refine wpAny_bind (sliceApplied_rev (n := items.size) hs ps ?_)
  have hno : ¬ (((((items.size : Nat) : Int) - 1) == 0 && (-1 : Int) == 1 && items.size == items.size) = true) := by
    intro q
    rw [Bool.and_eq_true, Bool.and_eq_true] at q
    have := eq_of_beq q.1.2
    omega
  show wpAny _ _ (if ((((items.size : Nat) : Int) - 1) == 0 && (-1 : Int) == 1 && items.size == items.size) = true then _ else _) _ _ s
  rw [if_neg hno, pick_rev]
  first
    | exact wpAny_bind (m := Builtin.Tuple.tupleExact _) (wpAny_newObj_type (wpAny_pure ⟨_, rfl, wpAny_pure h⟩) htake)
    | exact wpAny_bind (m := Builtin.Tuple.tupleExact _) (wpAny_newObj_type (wpAny_bind (wpAny_pure (wpAny_pure ⟨_, rfl, wpAny_pure h⟩))) htake)
    | exact wpAny_bind (wpAny_bind (m := Builtin.Tuple.tupleExact _) (wpAny_newObj_type (wpAny_pure (wpAny_pure ⟨_, rfl, wpAny_pure h⟩)) htake))
    | exact wpAny_bind (wpAny_bind (m := Builtin.Tuple.tupleExact _) (wpAny_newObj_type (wpAny_pure ⟨_, rfl, wpAny_pure h⟩) htake))
end
/-- t[::-1], t a tuple -/
def tRevT (K : PySem.W.Frag) (te : TE) (ts : TO) : TE := fun σ H Q => te σ H fun x H1 => ts σ H1 fun i H2 => i = some (-1) ∧ ∃ a xs, x = .ref a ∧ SqT K H2 a xs ∧ ∀ p, H2 p = none → Q (.ref p) (upd H2 p (.tup xs.reverse))
theorem pe_revT {X : Cx} {e st : Expr} {te : TE} {ts : TO} {p2 pos : Pos} (he : PE X e te) (hs : PO X (some st) ts) : PE X (.Subscript e (.Slice none none (some st) p2) pos) (tRevT X.K te ts) := by
  refine ⟨fun pins s σ H Q I h => ?_⟩
  refine Subscript_ (thn (he.run pins s σ H _ I h) fun v s1 ⟨x, H1, I1, r1, q1⟩ => ?_)
  refine wpAny_Slice ?_
  rw [evalPart_none]
  refine wpAny_pure (wpAny_pure ?_)
  refine thn (hs.run pins s1 σ H1 _ I1 q1) fun vs s2 ⟨i, H2, I2, ps, q2⟩ => ?_
  obtain ⟨rfl, a, xs, rfl, hx, q⟩ := q2
  have I4 : Inv X pins σ H2 { s2 with heap := s2.heap.push { cls := .type "slice", data := .fields #[.none, .none, vs] } } := I2.kept (t' := s2.toks) fun b ob q => Heap.get?_push_of_some _ q
  cases r1
  obtain ⟨its, r, ht, hz⟩ := I4.tuple hx
  have hlen := r.length
  show wpAny (model X.prog X.w) X.A (subscriptTail e (.Slice none none (some st) p2) (.ref a) (.ref s2.heap.objs.size)) (EP X pins σ Q) X.xe { s2 with heap := s2.heap.push { cls := .type "slice", data := .fields #[.none, .none, vs] } }
  refine tail_any (ops := [.ref a, .ref s2.heap.objs.size]) ht.typeIs PyProof.Rows.slot_tuple_getitem.lookup (getItem_tuple_rev ht (Heap.IsSliceOf.new ..) ps ?_ (by rw [List.size_toArray] <;> omega)) (by with_unfolding_all rfl)
  refine ⟨.ref _, _, I4.laid (t' := s2.toks) (o := .tup xs.reverse) (fun b ob q => Heap.get?_push_of_some _ q) (Nat.le_refl _) ?_, rfl, q _ ?_⟩
  · exact ⟨by rw [List.length_reverse]; omega, _, r.reverse, IsTup.new _ _⟩
  · exact I4.hok.fresh (Nat.le_refl _)
def kRevT (K : PySem.W.Frag) (ts : TO) (σ : L2.St) (Q : VK) (x : V) (H1 : Hp) : Prop := ts σ H1 fun i H2 => i = some (-1) ∧ ∃ a xs, x = .ref a ∧ SqT K H2 a xs ∧ ∀ p, H2 p = none → Q (.ref p) (upd H2 p (.tup xs.reverse))
instance {K : PySem.W.Frag} {te : TE} {ts : TO} {σ : L2.St} {H : Hp} {Q : VK} : Step (tRevT K te ts σ H Q) (te σ H (kRevT K ts σ Q)) := ⟨fun h => h⟩
end AF
namespace KW
open PySem PySem.Spec PyProof.Rows L2 AF
open K1
open C8 (pe_gc)
local macro_rules | `(tactic| purse 7003 => fail) => `(tactic| k_dflt (refine Sh.has_ (by assumption) ?_; repeat (first | exact On.here | apply On.next)))
local macro_rules | `(tactic| purse 7004 => fail) => `(tactic| k_dflt (repeat (first | exact On.here | apply On.next)))
local macro_rules | `(tactic| purse 7005 => fail) => `(tactic| (repeat (first | exact Rep.here | apply Rep.next)))
local macro_rules | `(tactic| purse 7006 => fail) => `(tactic| (exact Sh.out (by assumption) (fun b h => by simp [h])))
local macro_rules | `(tactic| purse 7007 => fail) => `(tactic| k_dflt (first | ((with_reducible refine cdivw ?_ ?_) <;> omega) | ((with_reducible show CDiv _ _); constructor <;> omega) | ((with_reducible show CMul _ _); (first | (left; constructor <;> omega) | (right; constructor <;> omega))) | (show (0 : Int) < _; omega)))
local macro_rules | `(tactic| purse 7008 => fail) => `(tactic| first | exact Kd.int _ | exact Kd.bl _ | exact Kd.non | exact Kd.str _ | exact Kd.ins (by (purse 7003 => fail)) | exact Kd.lst (by (purse 7003 => fail)) | exact Kd.tup (by (purse 7003 => fail)))
local macro_rules | `(tactic| purse 7009 => fail) => `(tactic| first | exact DpAll.nil | (apply DpAll.cons; (purse 7010 => fail); (purse 7009 => fail)))
local macro_rules | `(tactic| purse 7010 => fail) => `(tactic| first | exact Dp.int _ | exact Dp.bl _ | exact Dp.non | exact Dp.str _ | (refine dp_int ?_; omega) | (refine dp_bl ?_; simp only [decide_eq_decide]; omega) | (apply dp_lst; (purse 7003 => fail); (purse 7009 => fail)) | (apply dp_tup; (purse 7003 => fail); (purse 7009 => fail)))
local macro_rules | `(tactic| purse 7011 => fail) => `(tactic| first | assumption | omega)
local macro_rules | `(tactic| purse 7001 => fail) => `(tactic| fail "no use")
local macro_rules | `(tactic| purse 7002 => fail) => `(tactic| first
  | (with_reducible refine set_go ?_)
  | (with_reducible refine Step.go ?_)
  | (with_reducible first | refine g_pow10_6 ?_ | refine g_pow10_7 ?_ | refine g_pow10_18 ?_ | refine g_pow10_29 ?_ | refine g_pow10_30 ?_)
  | ((with_reducible refine' g_I ?a0 ?_); (case a0 => (purse 7007 => fail)))
  | ((with_reducible refine' g_ixL ?a0 ?a1 ?_); (case a0 => (purse 7003 => fail)); (case a1 => k_dflt (exact rfl)))
  | ((with_reducible refine' g_kfld ?a0 ?a1 ?a2 ?a3 ?_); (case a0 => (purse 7003 => fail)); (case a1 => k_dflt (assumption)); (case a2 => k_dflt (assumption)); (case a3 => k_dflt (exact rfl)))
  | ((with_reducible refine' g_kprop ?a0 ?_); (case a0 => (purse 7003 => fail)))
  | ((with_reducible refine' g_kmeth ?a0 ?a1 ?_); (case a0 => (purse 7003 => fail)); (case a1 => k_dflt (exact rfl)))
  | ((with_reducible refine' g_own ?a0 ?a1 ?a2 ?_); (case a0 => (purse 7003 => fail)); (case a1 => (purse 7008 => fail)); (case a2 => k_dflt (assumption)))
  | ((with_reducible refine' g_cmp ?a0 ?a1 ?a2 ?_); (case a0 => (purse 7003 => fail)); (case a1 => (purse 7008 => fail)); (case a2 => k_dflt (assumption)))
  | ((with_reducible refine' g_neq ?a0 ?a1 ?a2 ?_); (case a0 => (purse 7003 => fail)); (case a1 => (purse 7008 => fail)); (case a2 => k_dflt (assumption)))
  | ((with_reducible refine' g_right ?a0 ?_); (case a0 => (purse 7003 => fail)))
  | ((with_reducible refine' use_draw ?a0 ?a1 ?a2 ?a3 ?a4 ?_); (case a0 => assumption); (case a1 => intro _ _; (purse 7005 => fail)); (case a2 => assumption); (case a3 => (purse 7011 => fail)); (case a4 => (purse 7011 => fail)); intro _ _ _ _ _ _ _ _)
  | ((with_reducible refine' use_giveI ?a0 ?a1 ?a2 ?_); (case a0 => assumption); (case a1 => intro _ _; (purse 7005 => fail)); (case a2 => assumption); intro _ _ _ _ _ _ _ _)
  | ((with_reducible refine' use_source ?a0 ?a1 ?_); (case a0 => assumption); (case a1 => k_dflt (assumption)); intro _ _ _ _ _ _)
  | (with_reducible refine g_absN ?_; intro _ _)
  | (with_reducible refine g_maxN ?_; intro _ _ _ _)
  | (with_reducible refine g_minN ?_; intro _ _ _ _)
  | ((with_reducible refine' g_kR1 ?a0 ?a1 ?_); (case a0 => omega); (case a1 => omega))
  | ((with_reducible refine' g_neD ?a0 ?a1 ?a2 ?_); (case a0 => (purse 7010 => fail)); (case a1 => (purse 7010 => fail)); (case a2 => k_dflt (rfl)))
  | ((with_reducible refine' g_eqD ?a0 ?a1 ?a2 ?_); (case a0 => (purse 7010 => fail)); (case a1 => (purse 7010 => fail)); (case a2 => k_dflt (rfl)))
  | ((with_reducible refine' g_klst ?a0 ?a1 ?_); (case a0 => assumption); (case a1 => k_dflt (exact rfl)); intro _ _ _ _)
  | ((with_reducible refine' g_ktup ?a0 ?a1 ?_); (case a0 => assumption); (case a1 => k_dflt (exact rfl)); intro _ _ _ _)
  | ((with_reducible refine' g_setL ?a0 ?a1 ?a2 ?_); (case a0 => assumption); (case a1 => (purse 7005 => fail)); (case a2 => k_dflt (exact rfl)); intro _ _)
  | ((with_reducible refine' g_unl3 ?a0 ?_); (case a0 => (purse 7003 => fail)))
  | (purse 7001 => fail))
local macro_rules | `(tactic| purse 7012 => fail) => `(tactic| ((try (with_reducible refine start_go ?_)); repeat (purse 7002 => fail)))
local macro_rules | `(tactic| purse 7013 => fail) => `(tactic| first | rfl | (refine decide_eq_true ?_; omega) | (simp only [Bool.not_eq_true', Bool.not_eq_false', decide_eq_false_iff_not, decide_eq_true_eq, Bool.not_not, decide_eq_decide]; done) | (simp only [Bool.not_eq_true', Bool.not_eq_false', decide_eq_false_iff_not, decide_eq_true_eq, Bool.not_not, decide_eq_decide]; omega))
local macro_rules | `(tactic| purse 7014 => fail) => `(tactic| first | rfl | (refine decide_eq_false ?_; omega) | (simp only [Bool.not_eq_true', Bool.not_eq_false', decide_eq_false_iff_not, decide_eq_true_eq, Bool.not_not, decide_eq_decide]; done) | (simp only [Bool.not_eq_true', Bool.not_eq_false', decide_eq_false_iff_not, decide_eq_true_eq, Bool.not_not, decide_eq_decide]; omega))
local macro_rules | `(tactic| purse 7015 => fail) => `(tactic| ((refine g_yes ?h ?_); (case h => (purse 7013 => fail))))
local macro_rules | `(tactic| purse 7016 => fail) => `(tactic| ((refine g_no ?h ?_); (case h => (purse 7014 => fail))))
local macro_rules | `(tactic| purse 7017 => fail) => `(tactic| first | (purse 7015 => fail) | (purse 7016 => fail))
local macro_rules | `(tactic| purse 7018 => fail) => `(tactic| repeat ((purse 7012 => fail); (purse 7017 => fail)))
local macro_rules | `(tactic| purse 7019 => fail) => `(tactic| repeat (first | exact intIn_nil | refine intIn_cons (by omega) (by omega) ?_))
local macro_rules | `(tactic| purse 7020 => fail) => `(tactic| (simp only [List.length_cons, List.length_nil]; omega))
local macro_rules | `(tactic| purse 7021 => fail) => `(tactic| (refine g_two (fun c => ?_) (fun c => ?_) <;> first | (have c := of_decide_eq_true c) | (have c := of_decide_eq_false c) | skip))
local macro_rules | `(tactic| purse 7022 => fail) => `(tactic| ((purse 7018 => fail); (purse 7012 => fail); try ((purse 7021 => fail) <;> (purse 7022 => fail))))

/-! ways: the plain defs -/
open ST (Pr)
open He in
def NowT (K : PySem.W.Frag) (x : Str) : Prop := ∃ v, PySem.W.nsIn K (ga K "SET_NOW") x = some (some v)
open He in
structure TW (K : PySem.W.Frag) (w : World) (mg : Str → Option Value) : Prop where
  g_NoWay : mg "NoWay" = some (.ref (ga K "NoWay"))
  g_is_whole : mg "is_whole" = some (.ref (ga K "is_whole"))
  g_is_time : mg "is_time" = some (.ref (ga K "is_time"))
  g_is_list : mg "is_list" = some (.ref (ga K "is_list"))
  g_is_deed : mg "is_deed" = some (.ref (ga K "is_deed"))
  g_makes : mg "makes" = some (.ref (ga K "makes"))
  g_Way : mg "Way" = some (.ref (ga K "Way"))
  g_is_place : mg "is_place" = some (.ref (ga K "is_place"))
  g_is_arrow : mg "is_arrow" = some (.ref (ga K "is_arrow"))
  g_with_word : mg "with_word" = some (.ref (ga K "with_word"))
  g_check_nodes : mg "check_nodes" = some (.ref (ga K "check_nodes"))
  g_check_arrows : mg "check_arrows" = some (.ref (ga K "check_arrows"))
  g_check_anew : mg "check_anew" = some (.ref (ga K "check_anew"))
  g_check_reached : mg "check_reached" = some (.ref (ga K "check_reached"))
  z_isinstance : mg "isinstance" = none
  z_len : mg "len" = none
  z_int : mg "int" = none
  z_bool : mg "bool" = none
  z_tuple : mg "tuple" = none
  z_list : mg "list" = none
  z_str : mg "str" = none
  z_set : mg "set" = none
  z_enumerate : mg "enumerate" = none
  z_range : mg "range" = none
  v_WORDS : ∃ u, mg "WORDS" = some u ∧ RelV (.ref (ga K "WORDS")) u
  words : KT K (ga K "WORDS") [.str "", .str "held", .str "anew"]
  v_SET_NOW : ∃ u, mg "SET_NOW" = some u ∧ RelV (.ref (ga K "SET_NOW")) u
  v_SET_BACK : ∃ u, mg "SET_BACK" = some u ∧ RelV (.ref (ga K "SET_BACK")) u
  dn : ∃ es n, KDict K w (ga K "SET_NOW") es n
  db : ∃ es n, KDict K w (ga K "SET_BACK") es n
  now0 : ∀ x ∈ (["make", "read", "write", "rename", "touch"] : List Str), ∃ v, PySem.W.nsIn K (ga K "SET_NOW") x = some (some v)
  now1 : ∀ x ∈ (["unpack", "setback"] : List Str), ∃ v, PySem.W.nsIn K (ga K "SET_NOW") x = some (some v)
  back1 : ∀ x ∈ (["unpack", "setback"] : List Str), ∃ v, PySem.W.nsIn K (ga K "SET_BACK") x = some (some v)
  back0 : ∀ x ∈ (["make", "read", "write", "rename", "touch"] : List Str), PySem.W.nsIn K (ga K "SET_BACK") x = some none
  cl : Cls K (ga K "Way")
  nD : NoAttr K (ga K "Way") "deeds"
  nL : NoAttr K (ga K "Way") "links"
  ic : C8.InsC K (ga K "Way")
  kl : PySem.W.kitOne K (.type "list") (.ref (ga K "Way")) = some false
def wholeB : PyData → Bool
  | .int _ => true
  | _ => false
theorem kit_int : ∀ d : PyData, kitB (tyN d) "int" = some (match d with | .int _ => true | .bool _ => true | _ => false)
  | .none => (by decide +kernel : kitB "NoneType" "int" = some false)
  | .bool _ => (by decide +kernel : kitB "bool" "int" = some true)
  | .int _ => (by decide +kernel : kitB "int" "int" = some true)
  | .str _ => (by decide +kernel : kitB "str" "int" = some false)
  | .list _ => (by decide +kernel : kitB "list" "int" = some false)
  | .tuple _ => (by decide +kernel : kitB "tuple" "int" = some false)
  | .dict _ => (by decide +kernel : kitB "dict" "int" = some false)
theorem kit_bool : ∀ d : PyData, kitB (tyN d) "bool" = some (match d with | .bool _ => true | _ => false)
  | .none => (by decide +kernel : kitB "NoneType" "bool" = some false)
  | .bool _ => (by decide +kernel : kitB "bool" "bool" = some true)
  | .int _ => (by decide +kernel : kitB "int" "bool" = some false)
  | .str _ => (by decide +kernel : kitB "str" "bool" = some false)
  | .list _ => (by decide +kernel : kitB "list" "bool" = some false)
  | .tuple _ => (by decide +kernel : kitB "tuple" "bool" = some false)
  | .dict _ => (by decide +kernel : kitB "dict" "bool" = some false)

/-- a deed's items -/
inductive Dd : List V → Prop where
  | one {w : Str} (h : w ∈ (["make", "read", "write", "rename", "touch"] : List Str)) : Dd [.str w]
  | two {w : Str} {b : Int} (h : w ∈ (["unpack", "setback"] : List Str)) (h1 : 1 ≤ b) (h2 : b ≤ 1000000000) : Dd [.str w, .int b]
def mkB (xs : List V) : Bool := inV (xs.getD 0 .non) [.str "make", .str "unpack"]
/-- an arrow -/
structure Ar where
  s : Nat
  g : Nat
  l : Int
  m : Option Int
  w : Str
def v4 (a : Ar) : List V := [.int (a.s : Nat), .int (a.g : Nat), .int a.l, ov a.m]
def v5 (a : Ar) : List V := [.int (a.s : Nat), .int (a.g : Nat), .int a.l, ov a.m, .str a.w]
def ArAt (H : Hp) (t : Addr) (a : Ar) : Prop := H t = some (.tup (v5 a)) ∨ (a.w = "" ∧ H t = some (.tup (v4 a)))
structure ArOk (ns : List (List V)) (a : Ar) : Prop where
  hs : a.s < ns.length
  hg : a.g < ns.length
  h1 : 1 ≤ a.l
  h2 : a.l ≤ 1000000000
  hm : ∀ u, a.m = some u → a.l ≤ u ∧ u ≤ 1000000000
  hw : a.w ∈ (["", "held", "anew"] : List Str)
  hk : ∀ xs, ns[a.g]? = some xs → mkB xs = decide (a.w = "anew")
theorem ArAt.up {H H' : Hp} {t : Addr} {a : Ar} (u : Up H H') (h : ArAt H t a) : ArAt H' t a := h.imp (u _ _) fun z => ⟨z.1, u _ _ z.2⟩
/-- nodes kept at a place -/
structure NdAt (H : Hp) (n : Addr) (ns : List (List V)) : Prop where
  ex : ∃ vs, Sqe H n vs ∧ Tls H vs ns
  ok : ∀ xs, xs ∈ ns → Dd xs
theorem NdAt.up {H H' : Hp} {n : Addr} {ns : List (List V)} (u : Up H H') (h : NdAt H n ns) : NdAt H' n ns := by
  obtain ⟨⟨vs, a, b⟩, c⟩ := h
  exact ⟨⟨vs, a.up u, b.up u⟩, c⟩
theorem upC {H H' : Hp} (c : Ch [] H H') : Up H H' := fun b o e => c b o e List.not_mem_nil
def spWhole : Sp := fun vs H Q _ => ∃ v d, vs = [v] ∧ Pv H v d ∧ Q (.bl (wholeB d)) H
def spTime : Sp := fun vs H Q _ => ∃ n : Int, vs = [.int n] ∧ 1 ≤ n ∧ n ≤ 1000000000 ∧ Q (.bl true) H
def spList : Sp := fun vs H Q _ => ∃ a xs, vs = [.ref a] ∧ Sqe H a xs ∧ ∀ H', Up H H' → Q (.bl true) H'
def spDeed : Sp := fun vs H Q _ => ∃ (a : Addr) (xs : List V), vs = [.ref a] ∧ H a = some (.tup xs) ∧ Dd xs ∧ ∀ H', Ch [] H H' → Q (.bl true) H'
def spMakes : Sp := fun vs H Q _ => ∃ (a : Addr) (xs : List V), vs = [.ref a] ∧ H a = some (.tup xs) ∧ Dd xs ∧ ∀ H', Up H H' → Q (.bl (mkB xs)) H'
def spPlace : Sp := fun vs H Q _ => ∃ (i : Nat) (a : Addr) (xs : List V), vs = [.int (i : Nat), .ref a] ∧ Sqe H a xs ∧ i < xs.length ∧ Q (.bl true) H
def spWith : Sp := fun vs H Q _ => ∃ (t : Addr) (a : Ar), vs = [.ref t] ∧ ArAt H t a ∧ ∀ r H', Up H H' → H' r = some (.tup (v5 a)) → Q (.ref r) H'
def spArrow : Sp := fun vs H Q _ => ∃ (t n : Addr) (a : Ar) (ns : List (List V)), vs = [.ref t, .ref n] ∧ ArAt H t a ∧ NdAt H n ns ∧ ArOk ns a ∧ ∀ H', Up H H' → Q (.bl true) H'
section
open He
variable {P : Program} {w : World} {K : PySem.W.Frag} {mg : Str → Option Value} {base : Heap} {f : Addr} {fd : FuncData}
abbrev FnP (K : PySem.W.Frag) (x q : Str) (st : Stmt) (f : Addr) (fd : FuncData) : Prop := FunD K x q (defArgs st) (defBody st) (defScope st) [] [] f fd
theorem g_neS {i j : Str} {r : Bool} {H : Hp} {Q : VK} (e : decide (V.str i = V.str j) = r) (q : Q (.bl (!r)) H) : rNe (.str i) (.str j) H Q := ⟨rfl, by rw [e]; exact q⟩
theorem g_eqS {i j : Str} {r : Bool} {H : Hp} {Q : VK} (e : decide (V.str i = V.str j) = r) (q : Q (.bl r) H) : rEq (.str i) (.str j) H Q := ⟨rfl, by rw [e]; exact q⟩
theorem use_whole {H : Hp} {v : V} {d : PyData} {Q : VK} {E : XK} (h : Pv H v d) (q : Q (.bl (wholeB d)) H) : spWhole [v] H Q E := ⟨v, d, rfl, h, q⟩
theorem use_wholeI {H : Hp} {n : Int} {Q : VK} {E : XK} (q : Q (.bl true) H) : spWhole [.int n] H Q E := ⟨_, .int n, rfl, .int n, q⟩
theorem use_time {n : Int} {H : Hp} {Q : VK} {E : XK} (h1 : 1 ≤ n) (h2 : n ≤ 1000000000) (q : Q (.bl true) H) : spTime [.int n] H Q E := ⟨n, rfl, h1, h2, q⟩
theorem ok_whole (F : FnP K "is_whole" "is_whole" s_is_whole f fd) (T : TW K w mg) : FnOk P w K mg base (L2.CX P w) 2 f fd ["value"] spWhole := by
  refine F.ok c_is_whole (fun vs H Q E h => ?_) (fun cdv A outer s H vs Q E hr h => ⟨_, pss_one (ps_ret (pe_and (pe_callB call_isi (by rfl) T.z_isinstance (by decide +kernel) (pa_cons (pv 0) (pa_cons (pe_bltn (v := .ty "int") rfl T.z_int (by decide +kernel) rfl) (pa_nil)))) (pe_one (pe_not (pe_callB call_isi (by rfl) T.z_isinstance (by decide +kernel) (pa_cons (pv 0) (pa_cons (pe_bltn (v := .ty "bool") rfl T.z_bool (by decide +kernel) rfl) (pa_nil)))))))), ?_⟩)
  · obtain ⟨v, d, rfl, _⟩ := h
    rfl
  · obtain ⟨v, d, rfl, hp, k⟩ := h
    (purse 7012 => fail)
    refine g_isP hp (kit_int d) ?_
    (purse 7012 => fail)
    cases d with
    | int n =>
      (purse 7015 => fail)
      (purse 7012 => fail)
      refine g_isP hp (kit_bool _) ?_
      (purse 7012 => fail)
      exact k
    | bool b =>
      (purse 7015 => fail)
      (purse 7012 => fail)
      refine g_isP hp (kit_bool _) ?_
      (purse 7012 => fail)
      exact k
    | _ => exact iteF k
local macro_rules | `(tactic| purse 7001 => fail) => `(tactic| first
  | (with_reducible refine use_wholeI ?_)
  | (with_reducible refine g_pow10_9 ?_)
  | ((with_reducible refine' use_time ?a0 ?a1 ?_); (case a0 => (purse 7011 => fail)); (case a1 => (purse 7011 => fail))))
theorem ok_time (F : FnP K "is_time" "is_time" s_is_time f fd) (T : TW K w mg) (D_is_whole : Dn P w K mg base 2 (ga K "is_whole") ["value"] spWhole) : FnOk P w K mg base (L2.CX P w) 4 f fd ["value"] spTime := by
  refine F.ok c_is_time (fun vs H Q E h => ?_) (fun cdv A outer s H vs Q E hr h => ⟨_, pss_one (ps_ret (pe_and (pe_dn D_is_whole (rm hr) rfl T.g_is_whole (passes_call (takes_of rfl rfl rfl rfl) fun _ _ _ _ h => h) (pa_cons (pv 0) (pa_nil))) (pe_one (pe_chain op_le op_le (pe_int) (pv 0) (pe_op op_pow (pe_int) (pe_int)))))), ?_⟩)
  · obtain ⟨n, rfl, _⟩ := h
    rfl
  · obtain ⟨n, rfl, h1, h2, k⟩ := h
    (purse 7012 => fail)
    (purse 7015 => fail)
    (purse 7012 => fail)
    (purse 7015 => fail)
    (purse 7012 => fail)
    rw [decide_eq_true h2]
    exact k
theorem ok_list (F : FnP K "is_list" "is_list" s_is_list f fd) (T : TW K w mg) : FnOk P w K mg base (L2.CX P w) 2 f fd ["value"] spList := by
  refine F.ok c_is_list (fun vs H Q E h => ?_) (fun cdv A outer s H vs Q E hr h => ⟨_, pss_one (ps_ret (pe_isiLT ((pv 0)) (by rfl) T.z_isinstance ((pa_cons (pe_bltn (v := .ty "list") rfl T.z_list (by decide +kernel) rfl) (pa_cons (pe_bltn (v := .ty "tuple") rfl T.z_tuple (by decide +kernel) rfl) (pa_nil)))))), ?_⟩)
  · obtain ⟨a, xs, rfl, _⟩ := h
    rfl
  · obtain ⟨a, xs, rfl, ha, k⟩ := h
    (purse 7012 => fail)
    exact g_kIsLT ha k
theorem ok_deed (F : FnP K "is_deed" "is_deed" s_is_deed f fd) (T : TW K w mg) (D_is_time : Dn P w K mg base 4 (ga K "is_time") ["value"] spTime) : FnOk P w K mg base (L2.CX P w) 6 f fd ["value"] spDeed := by
  refine F.ok c_is_deed (fun vs H Q E h => ?_) (fun cdv A outer s H vs Q E hr h => ⟨_, pss_cons (ps_if (PW.pt (pw_or (pt_not (pt_val (pe_callB call_isi (by rfl) T.z_isinstance (by decide +kernel) (pa_cons (pv 0) (pa_cons (pe_bltn (v := .ty "tuple") rfl T.z_tuple (by decide +kernel) rfl) (pa_nil)))))) (pw_or1 (pt_cmpR op_notIn_seq (pe_callB cl_len (by rfl) T.z_len (by decide +kernel) (pa_cons (pv 0) (pa_nil))) (pe_tup (pa_cons (pe_int) (pa_cons (pe_int) (pa_nil)))) (by rfl)))))
      (pss_one (ps_ret (pe_bl)))
      (pss_nil))
      (pss_cons (ps_set (i := 1) c_is_deed.nd rfl (Or.inl rfl) (pe_ix ix_tup (pv 0) (pe_int) (fun _ _ => rfl)))
      (pss_cons (ps_if (PW.pt (pw_or (pt_not (pt_val (pe_callB call_isi (by rfl) T.z_isinstance (by decide +kernel) (pa_cons (pv 1) (pa_cons (pe_bltn (v := .ty "str") rfl T.z_str (by decide +kernel) rfl) (pa_nil)))))) (pw_or1 (pt_cmpR (op_notInK T.dn) (pv 1) (pe_gc rfl T.v_SET_NOW) (by rfl)))))
      (pss_one (ps_ret (pe_bl)))
      (pss_nil))
      (pss_cons (ps_if (pt_cmpR (op_inK T.db) (pv 1) (pe_gc rfl T.v_SET_BACK) (by rfl))
      (pss_one (ps_ret (pe_and (pe_cmpR op_eq (pe_callB cl_len (by rfl) T.z_len (by decide +kernel) (pa_cons (pv 0) (pa_nil))) (pe_int) (nomark _)) (pe_one (pe_dn D_is_time (rm hr) rfl T.g_is_time (passes_call (takes_of rfl rfl rfl rfl) fun _ _ _ _ h => h) (pa_cons (pe_ix ix_tup (pv 0) (pe_int) (fun _ _ => rfl)) (pa_nil)))))))
      (pss_nil))
      (pss_one (ps_ret (pe_cmpR op_eq (pe_callB cl_len (by rfl) T.z_len (by decide +kernel) (pa_cons (pv 0) (pa_nil))) (pe_int) (nomark _))))))), ?_⟩)
  · obtain ⟨a, xs, rfl, _⟩ := h
    rfl
  · obtain ⟨a, xs, rfl, ha, hd, k⟩ := h
    have S : Sh H (fun _ => False) H [(a, .tup xs, false)] := Sh.start.know ha (fun _ h => nomatch h)
    (purse 7012 => fail)
    refine g_isi (.ty "tuple") (.base (.tup ha)) (kit_ty (b := "tuple") (r := true) (by decide +kernel)) ?_
    (purse 7012 => fail)
    (purse 7016 => fail)
    (purse 7012 => fail)
    refine g_lenT (SqT.of ha) ?_
    (purse 7012 => fail)
    refine g_ninT (r := true) (by (purse 7003 => fail)) rfl rfl (by cases hd <;> rfl) ?_
    (purse 7012 => fail)
    (purse 7016 => fail)
    (purse 7012 => fail)
    cases hd with
    | one hw =>
      refine g_ixT (by (purse 7003 => fail)) rfl ?_
      (purse 7012 => fail)
      refine g_isi (.ty "str") (.base (.str _)) (kit_ty (b := "str") (r := true) (by decide +kernel)) ?_
      (purse 7012 => fail)
      (purse 7016 => fail)
      (purse 7012 => fail)
      obtain ⟨v, hv⟩ := T.now0 _ hw
      refine g_ninK hv ?_
      (purse 7012 => fail)
      (purse 7016 => fail)
      (purse 7012 => fail)
      refine g_inK (T.back0 _ hw) ?_
      (purse 7012 => fail)
      (purse 7016 => fail)
      (purse 7012 => fail)
      refine g_lenT (SqT.of (by (purse 7003 => fail))) ?_
      (purse 7012 => fail)
      exact k _ (by (purse 7006 => fail))
    | two hw h1 h2 =>
      refine g_ixT (by (purse 7003 => fail)) rfl ?_
      (purse 7012 => fail)
      refine g_isi (.ty "str") (.base (.str _)) (kit_ty (b := "str") (r := true) (by decide +kernel)) ?_
      (purse 7012 => fail)
      (purse 7016 => fail)
      (purse 7012 => fail)
      obtain ⟨v, hv⟩ := T.now1 _ hw
      refine g_ninK hv ?_
      (purse 7012 => fail)
      (purse 7016 => fail)
      (purse 7012 => fail)
      obtain ⟨v2, hv2⟩ := T.back1 _ hw
      refine g_inK hv2 ?_
      (purse 7012 => fail)
      (purse 7015 => fail)
      (purse 7012 => fail)
      refine g_lenT (SqT.of (by (purse 7003 => fail))) ?_
      (purse 7012 => fail)
      (purse 7015 => fail)
      (purse 7012 => fail)
      refine g_ixT (by (purse 7003 => fail)) rfl ?_
      (purse 7012 => fail)
      exact k _ (by (purse 7006 => fail))
theorem use_deed {H : Hp} {a : Addr} {xs : List V} {Q : VK} {E : XK} (h : H a = some (.tup xs)) (hd : Dd xs) (q : ∀ H', Up H H' → Q (.bl true) H') : spDeed [.ref a] H Q E := ⟨a, xs, rfl, h, hd, fun H' c => q H' (upC c)⟩
theorem ok_makes (F : FnP K "makes" "makes" s_makes f fd) (T : TW K w mg) (D_is_deed : Dn P w K mg base 6 (ga K "is_deed") ["value"] spDeed) : FnOk P w K mg base (L2.CX P w) 8 f fd ["value"] spMakes := by
  refine F.ok c_makes (fun vs H Q E h => ?_) (fun cdv A outer s H vs Q E hr h => ⟨_, pss_one (ps_ret (pe_and (pe_dn D_is_deed (rm hr) rfl T.g_is_deed (passes_call (takes_of rfl rfl rfl rfl) fun _ _ _ _ h => h) (pa_cons (pv 0) (pa_nil))) (pe_one (pe_cmpR op_in_seq (pe_ix ix_tup (pv 0) (pe_int) (fun _ _ => rfl)) (pe_tup (pa_cons (pe_str) (pa_cons (pe_str) (pa_nil)))) (by rfl))))), ?_⟩)
  · obtain ⟨a, xs, rfl, _⟩ := h
    rfl
  · obtain ⟨a, xs, rfl, ha, hd, k⟩ := h
    (purse 7012 => fail)
    refine use_deed ha hd fun H' u => ?_
    have ha' := u _ _ ha
    (purse 7012 => fail)
    (purse 7015 => fail)
    (purse 7012 => fail)
    cases hd with
    | one hw => 
      refine g_ixT ha' rfl ?_
      (purse 7012 => fail)
      refine g_t0 (by rfl) fun p hp => ?_
      refine g_inT upd_same rfl rfl rfl ?_
      exact k _ (u.trans (Up.new hp))
    | two hw h1 h2 => 
      refine g_ixT ha' rfl ?_
      (purse 7012 => fail)
      refine g_t0 (by rfl) fun p hp => ?_
      refine g_inT upd_same rfl rfl rfl ?_
      exact k _ (u.trans (Up.new hp))
theorem ok_place (F : FnP K "is_place" "is_place" s_is_place f fd) (T : TW K w mg) (D_is_whole : Dn P w K mg base 2 (ga K "is_whole") ["value"] spWhole) : FnOk P w K mg base (L2.CX P w) 4 f fd ["value", "things"] spPlace := by
  refine F.ok c_is_place (fun vs H Q E h => ?_) (fun cdv A outer s H vs Q E hr h => ⟨_, pss_one (ps_ret (pe_and (pe_dn D_is_whole (rm hr) rfl T.g_is_whole (passes_call (takes_of rfl rfl rfl rfl) fun _ _ _ _ h => h) (pa_cons (pv 0) (pa_nil))) (pe_one (pe_chain op_le op_lt (pe_int) (pv 0) (pe_callB cl_len (by rfl) T.z_len (by decide +kernel) (pa_cons (pv 1) (pa_nil))))))), ?_⟩)
  · obtain ⟨i, a, xs, rfl, _⟩ := h
    rfl
  · obtain ⟨i, a, xs, rfl, ha, hi, k⟩ := h
    (purse 7012 => fail)
    (purse 7015 => fail)
    (purse 7012 => fail)
    (purse 7015 => fail)
    (purse 7012 => fail)
    refine g_lene ha ?_
    (purse 7012 => fail)
    rw [decide_eq_true (show (i : Int) < (xs.length : Int) by omega)]
    exact k
def kStar (K : PySem.W.Frag) (t : TA) (σ : L2.St) (Q : List V → Hp → Prop) (x : V) (H1 : Hp) : Prop := ∃ p xs, x = V.ref p ∧ (SqT K H1 p xs ∨ SqL K H1 p xs) ∧ t σ H1 fun ys H2 => Q (xs ++ ys) H2
instance {K : PySem.W.Frag} {te : TE} {t : TA} {σ : L2.St} {H : Hp} {Q : List V → Hp → Prop} : Step (StX.tStar K te t σ H Q) (te σ H (kStar K t σ Q)) := ⟨fun h => h⟩
def kUn5 (K : PySem.W.Frag) (t : TGs) (σ : L2.St) (nx : L2.St → Hp → Prop) (x : V) (H : Hp) : Prop := gTup K 5 t x σ H nx
instance {K : PySem.W.Frag} {te : TE} {t : TGs} {σ : L2.St} {H : Hp} {nx : L2.St → Hp → Prop} {rt : VK} {bk ct : L2.St → Hp → Prop} : Step (tAsg te (gTup K 5 t) ⟨nx, rt, bk, ct⟩ σ H) (te σ H (kUn5 K t σ nx)) := ⟨fun h => h⟩
theorem ok_with (F : FnP K "with_word" "with_word" s_with_word f fd) (T : TW K w mg) : FnOk P w K mg base (L2.CX P w) 2 f fd ["arrow"] spWith := by
  refine F.ok c_with_word (fun vs H Q E h => ?_) (fun cdv A outer s H vs Q E hr h => ⟨_, pss_cons (ps_if (pt_cmpR op_eq (pe_callB cl_len (by rfl) T.z_len (by decide +kernel) (pa_cons (pv 0) (pa_nil))) (pe_int) (nomark _))
      (pss_one (ps_ret (pe_tup (StX.pa_star ((pv 0)) (pa_cons ((pe_str)) (pa_nil))))))
      (pss_nil))
      (pss_one (ps_ret (pe_callTy cl_tupE (by rfl) T.z_tuple (by decide +kernel) (pa_cons (pv 0) (pa_nil))))), ?_⟩)
  · obtain ⟨t, a, rfl, _⟩ := h
    rfl
  · obtain ⟨t, a, rfl, ha, k⟩ := h
    (purse 7012 => fail)
    rcases ha with ha | ⟨hw, ha⟩
    · refine g_lent ha ?_
      (purse 7012 => fail)
      (purse 7016 => fail)
      (purse 7012 => fail)
      exact g_tupE (.inr ha) k
    · refine g_lent ha ?_
      (purse 7012 => fail)
      (purse 7015 => fail)
      (purse 7012 => fail)
      refine ⟨t, v4 a, rfl, .inl (SqT.of ha), ?_⟩
      (purse 7012 => fail)
      refine g_t0 (by rfl) fun p hp => ?_
      refine k p _ (Up.new hp) ?_
      rw [upd_same, show v5 a = v4 a ++ [.str ""] by unfold v5 v4; rw [hw]; rfl]
theorem g_un5 {σ : L2.St} {σ1 σ2 σ3 σ4 σ5 : L2.St} {H : Hp} {a : Addr} {i j k l m : Nat} {x1 x2 x3 x4 x5 : V} {q : L2.St → Hp → Prop} [h1 : SetI σ i x1 σ1] [h2 : SetI σ1 j x2 σ2] [h3 : SetI σ2 k x3 σ3] [h4 : SetI σ3 l x4 σ4] [h5 : SetI σ4 m x5 σ5] (h : H a = some (.tup [x1, x2, x3, x4, x5])) (w : q σ5 H) :
    gTup K 5 (gCons (gName i) (gCons (gName j) (gCons (gName k) (gCons (gName l) (gCons (gName m) gNil))))) (.ref a) σ H q :=
  ⟨a, _, rfl, SqT.of h, rfl, x1, _, rfl, x2, _, rfl, x3, _, rfl, x4, _, rfl, x5, _, rfl, rfl, by
    show q (((((σ.set i (some x1)).set j (some x2)).set k (some x3)).set l (some x4)).set m (some x5)) H
    rw [h1.eq, h2.eq, h3.eq, h4.eq, h5.eq]; exact w⟩
theorem flat_ov {m : Option Int} : flatV (ov m) = true := by cases m <;> rfl
theorem inV_word {wd : Str} (h : wd ∈ (["", "held", "anew"] : List Str)) : inV (.str wd) [.str "", .str "held", .str "anew"] = true := by
  rcases List.mem_cons.mp h with rfl | h
  · rfl
  rcases List.mem_cons.mp h with rfl | h
  · rfl
  rcases List.mem_cons.mp h with rfl | h
  · rfl
  · cases h
theorem g_ninKT {K : PySem.W.Frag} {H : Hp} {p : Addr} {xs : List V} {Q : VK} {x : V} {r : Bool} (h : KT K p xs) (fx : flatV x = true) (fs : xs.all flatV = true) (e : inV x xs = r) (q : Q (.bl (!r)) H) : rIn K true x (.ref p) H Q := ⟨p, xs, rfl, .inr h.sq, fx, fs, by rw [e]; exact q⟩
theorem dec_strE {x y : Str} : decide (V.str x = V.str y) = decide (x = y) := by simp
theorem ok_arrow (F : FnP K "is_arrow" "is_arrow" s_is_arrow f fd) (T : TW K w mg) (D_is_place : Dn P w K mg base 4 (ga K "is_place") ["value", "things"] spPlace) (D_is_time : Dn P w K mg base 4 (ga K "is_time") ["value"] spTime) (D_with_word : Dn P w K mg base 2 (ga K "with_word") ["arrow"] spWith) (D_makes : Dn P w K mg base 8 (ga K "makes") ["value"] spMakes) : FnOk P w K mg base (L2.CX P w) 10 f fd ["value", "nodes"] spArrow := by
  refine F.ok c_is_arrow (fun vs H Q E h => ?_) (fun cdv A outer s H vs Q E hr h => ⟨_, pss_cons (ps_if (PW.pt (pw_or (pt_not (pt_val (pe_callB call_isi (by rfl) T.z_isinstance (by decide +kernel) (pa_cons (pv 0) (pa_cons (pe_bltn (v := .ty "tuple") rfl T.z_tuple (by decide +kernel) rfl) (pa_nil)))))) (pw_or1 (pt_cmpR op_notIn_seq (pe_callB cl_len (by rfl) T.z_len (by decide +kernel) (pa_cons (pv 0) (pa_nil))) (pe_tup (pa_cons (pe_int) (pa_cons (pe_int) (pa_nil)))) (by rfl)))))
      (pss_one (ps_ret (pe_bl)))
      (pss_nil))
      (pss_cons (ps_asg (pe_dn D_with_word (rm hr) rfl T.g_with_word (passes_call (takes_of rfl rfl rfl rfl) fun _ _ _ _ h => h) (pa_cons (pv 0) (pa_nil))) (pg_tup (n := 5) rfl (pgs_cons (pg_name (i := 2) c_is_arrow.nd rfl (Or.inl rfl)) (pgs_cons (pg_name (i := 3) c_is_arrow.nd rfl (Or.inl rfl)) (pgs_cons (pg_name (i := 4) c_is_arrow.nd rfl (Or.inl rfl)) (pgs_cons (pg_name (i := 5) c_is_arrow.nd rfl (Or.inl rfl)) (pgs_cons (pg_name (i := 6) c_is_arrow.nd rfl (Or.inl rfl)) (pgs_nil))))))))
      (pss_cons (ps_if (PW.pt (pw_or (pt_not (pt_val (pe_dn D_is_place (rm hr) rfl T.g_is_place (passes_call (takes_of rfl rfl rfl rfl) fun _ _ _ _ h => h) (pa_cons (pv 2) (pa_cons (pv 1) (pa_nil)))))) (pw_or1 (pt_not (pt_val (pe_dn D_is_place (rm hr) rfl T.g_is_place (passes_call (takes_of rfl rfl rfl rfl) fun _ _ _ _ h => h) (pa_cons (pv 3) (pa_cons (pv 1) (pa_nil)))))))))
      (pss_one (ps_ret (pe_bl)))
      (pss_nil))
      (pss_cons (ps_if (pt_not (pt_val (pe_dn D_is_time (rm hr) rfl T.g_is_time (passes_call (takes_of rfl rfl rfl rfl) fun _ _ _ _ h => h) (pa_cons (pv 4) (pa_nil)))))
      (pss_one (ps_ret (pe_bl)))
      (pss_nil))
      (pss_cons (ps_if (PW.pt (pw_and (pt_cmpR op_notN (pv 5) (pe_non) (nomark _)) (pw_and1 (pt_not (PW.pt (pw_and (pt_val (pe_dn D_is_time (rm hr) rfl T.g_is_time (passes_call (takes_of rfl rfl rfl rfl) fun _ _ _ _ h => h) (pa_cons (pv 5) (pa_nil)))) (pw_and1 (pt_cmpR op_le (pv 4) (pv 5) (nomark _)))))))))
      (pss_one (ps_ret (pe_bl)))
      (pss_nil))
      (pss_cons (ps_if (PW.pt (pw_or (pt_not (pt_val (pe_callB call_isi (by rfl) T.z_isinstance (by decide +kernel) (pa_cons (pv 6) (pa_cons (pe_bltn (v := .ty "str") rfl T.z_str (by decide +kernel) rfl) (pa_nil)))))) (pw_or1 (pt_cmpR op_notIn_seq (pv 6) (pe_gc rfl T.v_WORDS) (by rfl)))))
      (pss_one (ps_ret (pe_bl)))
      (pss_nil))
      (pss_one (ps_ret (pe_cmpR op_eq (pe_dn D_makes (rm hr) rfl T.g_makes (passes_call (takes_of rfl rfl rfl rfl) fun _ _ _ _ h => h) (pa_cons (pe_ix ix_any (pv 1) (pv 3) (fun _ _ => rfl)) (pa_nil))) (pe_cmpR op_eq (pv 6) (pe_str) (nomark _)) (nomark _))))))))), ?_⟩)
  · obtain ⟨t, n, a, ns, rfl, _⟩ := h
    rfl
  · obtain ⟨t, n, a, ns, rfl, ha, hn, ok, k⟩ := h
    (purse 7012 => fail)
    have ty : ∃ xs, H t = some (.tup xs) ∧ (xs.length = 4 ∨ xs.length = 5) := ha.elim (fun z => ⟨_, z, .inr rfl⟩) fun z => ⟨_, z.2, .inl rfl⟩
    obtain ⟨xs, hx, hl⟩ := ty
    refine g_isi (.ty "tuple") (.base (.tup hx)) (kit_ty (b := "tuple") (r := true) (by decide +kernel)) ?_
    (purse 7012 => fail)
    (purse 7016 => fail)
    (purse 7012 => fail)
    refine g_lent hx ?_
    (purse 7012 => fail)
    refine g_t0 (by rfl) fun p hp => ?_
    refine g_ninT (r := true) upd_same rfl rfl (by rcases hl with e | e <;> (rw [e]; rfl)) ?_
    have u1 := Up.new (o := .tup [.int 4, .int 5]) hp
    generalize upd H p (.tup [.int 4, .int 5]) = H1 at u1 ⊢
    (purse 7012 => fail)
    (purse 7016 => fail)
    (purse 7012 => fail)
    refine ⟨t, a, rfl, ha.up u1, fun r H2 u2 hr2 => ?_⟩
    have u02 := u1.trans u2
    have hn2 := hn.up u02
    obtain ⟨⟨vs, hq, tl⟩, dd⟩ := hn2
    have hvs := tl.len
    have os := ok.hs
    have og := ok.hg
    have o1 := ok.h1
    have o2 := ok.h2
    refine g_un5 hr2 ?_
    (purse 7012 => fail)
    refine ⟨a.s, n, vs, rfl, hq, by omega, ?_⟩
    (purse 7012 => fail)
    (purse 7016 => fail)
    (purse 7012 => fail)
    refine ⟨a.g, n, vs, rfl, hq, by omega, ?_⟩
    (purse 7012 => fail)
    (purse 7016 => fail)
    (purse 7012 => fail)
    (purse 7016 => fail)
    (purse 7012 => fail)
    refine ⟨rfl, ?_⟩
    have hword : ∃ wd, a.w = wd := ⟨_, rfl⟩
    obtain ⟨wd, ew⟩ := hword
    rw [ew]
    have hw := ok.hw
    have hk := ok.hk
    rw [ew] at hw hk
    obtain ⟨xs2, ex2⟩ : ∃ xs2, ns[a.g]? = some xs2 := ⟨_, List.getElem?_eq_getElem og⟩
    obtain ⟨t2, et2, ht2⟩ := tl.at_ ex2
    have hk2 := hk _ ex2
    have dd2 := dd _ (List.mem_of_getElem? ex2)
    cases em : a.m with
    | none =>
      (purse 7012 => fail)
      (purse 7016 => fail)
      (purse 7016 => fail)
      (purse 7012 => fail)
      refine g_isi (.ty "str") (.base (.str _)) (kit_ty (b := "str") (r := true) (by decide +kernel)) ?_
      (purse 7012 => fail)
      (purse 7016 => fail)
      (purse 7012 => fail)
      refine g_ninKT T.words rfl rfl (inV_word hw) ?_
      (purse 7012 => fail)
      (purse 7016 => fail)
      (purse 7012 => fail)
      refine g_ixe hq et2 ?_
      (purse 7012 => fail)
      refine ⟨t2, xs2, rfl, ht2, dd2, fun H3 u3 => ?_⟩
      (purse 7012 => fail)
      refine ⟨rfl, ?_⟩
      (purse 7012 => fail)
      rw [hk2, show decide (decide (wd = "anew") = decide (V.str wd = V.str "anew")) = true from decide_eq_true dec_strE.symm]
      exact k _ (u02.trans u3)
    | some u =>
      have hu := ok.hm u em
      rw [show ov (some u) = V.int u from rfl]
      (purse 7012 => fail)
      (purse 7015 => fail)
      (purse 7012 => fail)
      (purse 7015 => fail)
      (purse 7012 => fail)
      (purse 7016 => fail)
      (purse 7012 => fail)
      refine g_isi (.ty "str") (.base (.str _)) (kit_ty (b := "str") (r := true) (by decide +kernel)) ?_
      (purse 7012 => fail)
      (purse 7016 => fail)
      (purse 7012 => fail)
      refine g_ninKT T.words rfl rfl (inV_word hw) ?_
      (purse 7012 => fail)
      (purse 7016 => fail)
      (purse 7012 => fail)
      refine g_ixe hq et2 ?_
      (purse 7012 => fail)
      refine ⟨t2, xs2, rfl, ht2, dd2, fun H3 u3 => ?_⟩
      (purse 7012 => fail)
      refine ⟨rfl, ?_⟩
      (purse 7012 => fail)
      rw [hk2, show decide (decide (wd = "anew") = decide (V.str wd = V.str "anew")) = true from decide_eq_true dec_strE.symm]
      exact k _ (u02.trans u3)
end

end KW
namespace KW
open PySem PySem.Spec PyProof.Rows L2 AF
open K1
open C8 (pe_gc)
local macro_rules | `(tactic| purse 7003 => fail) => `(tactic| k_dflt (refine Sh.has_ (by assumption) ?_; repeat (first | exact On.here | apply On.next)))
local macro_rules | `(tactic| purse 7004 => fail) => `(tactic| k_dflt (repeat (first | exact On.here | apply On.next)))
local macro_rules | `(tactic| purse 7005 => fail) => `(tactic| (repeat (first | exact Rep.here | apply Rep.next)))
local macro_rules | `(tactic| purse 7006 => fail) => `(tactic| (exact Sh.out (by assumption) (fun b h => by simp [h])))
local macro_rules | `(tactic| purse 7007 => fail) => `(tactic| k_dflt (first | ((with_reducible refine cdivw ?_ ?_) <;> omega) | ((with_reducible show CDiv _ _); constructor <;> omega) | ((with_reducible show CMul _ _); (first | (left; constructor <;> omega) | (right; constructor <;> omega))) | (show (0 : Int) < _; omega)))
local macro_rules | `(tactic| purse 7008 => fail) => `(tactic| first | exact Kd.int _ | exact Kd.bl _ | exact Kd.non | exact Kd.str _ | exact Kd.ins (by (purse 7003 => fail)) | exact Kd.lst (by (purse 7003 => fail)) | exact Kd.tup (by (purse 7003 => fail)))
local macro_rules | `(tactic| purse 7009 => fail) => `(tactic| first | exact DpAll.nil | (apply DpAll.cons; (purse 7010 => fail); (purse 7009 => fail)))
local macro_rules | `(tactic| purse 7010 => fail) => `(tactic| first | exact Dp.int _ | exact Dp.bl _ | exact Dp.non | exact Dp.str _ | (refine dp_int ?_; omega) | (refine dp_bl ?_; simp only [decide_eq_decide]; omega) | (apply dp_lst; (purse 7003 => fail); (purse 7009 => fail)) | (apply dp_tup; (purse 7003 => fail); (purse 7009 => fail)))
local macro_rules | `(tactic| purse 7011 => fail) => `(tactic| first | assumption | omega)
local macro_rules | `(tactic| purse 7001 => fail) => `(tactic| fail "no use")
local macro_rules | `(tactic| purse 7002 => fail) => `(tactic| first
  | (with_reducible refine set_go ?_)
  | (with_reducible refine Step.go ?_)
  | (with_reducible first | refine g_pow10_6 ?_ | refine g_pow10_7 ?_ | refine g_pow10_18 ?_ | refine g_pow10_29 ?_ | refine g_pow10_30 ?_)
  | ((with_reducible refine' g_I ?a0 ?_); (case a0 => (purse 7007 => fail)))
  | ((with_reducible refine' g_ixL ?a0 ?a1 ?_); (case a0 => (purse 7003 => fail)); (case a1 => k_dflt (exact rfl)))
  | ((with_reducible refine' g_kfld ?a0 ?a1 ?a2 ?a3 ?_); (case a0 => (purse 7003 => fail)); (case a1 => k_dflt (assumption)); (case a2 => k_dflt (assumption)); (case a3 => k_dflt (exact rfl)))
  | ((with_reducible refine' g_kprop ?a0 ?_); (case a0 => (purse 7003 => fail)))
  | ((with_reducible refine' g_kmeth ?a0 ?a1 ?_); (case a0 => (purse 7003 => fail)); (case a1 => k_dflt (exact rfl)))
  | ((with_reducible refine' g_own ?a0 ?a1 ?a2 ?_); (case a0 => (purse 7003 => fail)); (case a1 => (purse 7008 => fail)); (case a2 => k_dflt (assumption)))
  | ((with_reducible refine' g_cmp ?a0 ?a1 ?a2 ?_); (case a0 => (purse 7003 => fail)); (case a1 => (purse 7008 => fail)); (case a2 => k_dflt (assumption)))
  | ((with_reducible refine' g_neq ?a0 ?a1 ?a2 ?_); (case a0 => (purse 7003 => fail)); (case a1 => (purse 7008 => fail)); (case a2 => k_dflt (assumption)))
  | ((with_reducible refine' g_right ?a0 ?_); (case a0 => (purse 7003 => fail)))
  | ((with_reducible refine' use_draw ?a0 ?a1 ?a2 ?a3 ?a4 ?_); (case a0 => assumption); (case a1 => intro _ _; (purse 7005 => fail)); (case a2 => assumption); (case a3 => (purse 7011 => fail)); (case a4 => (purse 7011 => fail)); intro _ _ _ _ _ _ _ _)
  | ((with_reducible refine' use_giveI ?a0 ?a1 ?a2 ?_); (case a0 => assumption); (case a1 => intro _ _; (purse 7005 => fail)); (case a2 => assumption); intro _ _ _ _ _ _ _ _)
  | ((with_reducible refine' use_source ?a0 ?a1 ?_); (case a0 => assumption); (case a1 => k_dflt (assumption)); intro _ _ _ _ _ _)
  | (with_reducible refine g_absN ?_; intro _ _)
  | (with_reducible refine g_maxN ?_; intro _ _ _ _)
  | (with_reducible refine g_minN ?_; intro _ _ _ _)
  | ((with_reducible refine' g_kR1 ?a0 ?a1 ?_); (case a0 => omega); (case a1 => omega))
  | ((with_reducible refine' g_neD ?a0 ?a1 ?a2 ?_); (case a0 => (purse 7010 => fail)); (case a1 => (purse 7010 => fail)); (case a2 => k_dflt (rfl)))
  | ((with_reducible refine' g_eqD ?a0 ?a1 ?a2 ?_); (case a0 => (purse 7010 => fail)); (case a1 => (purse 7010 => fail)); (case a2 => k_dflt (rfl)))
  | ((with_reducible refine' g_klst ?a0 ?a1 ?_); (case a0 => assumption); (case a1 => k_dflt (exact rfl)); intro _ _ _ _)
  | ((with_reducible refine' g_ktup ?a0 ?a1 ?_); (case a0 => assumption); (case a1 => k_dflt (exact rfl)); intro _ _ _ _)
  | ((with_reducible refine' g_setL ?a0 ?a1 ?a2 ?_); (case a0 => assumption); (case a1 => (purse 7005 => fail)); (case a2 => k_dflt (exact rfl)); intro _ _)
  | ((with_reducible refine' g_unl3 ?a0 ?_); (case a0 => (purse 7003 => fail)))
  | (purse 7001 => fail))
local macro_rules | `(tactic| purse 7012 => fail) => `(tactic| ((try (with_reducible refine start_go ?_)); repeat (purse 7002 => fail)))
local macro_rules | `(tactic| purse 7013 => fail) => `(tactic| first | rfl | (refine decide_eq_true ?_; omega) | (simp only [Bool.not_eq_true', Bool.not_eq_false', decide_eq_false_iff_not, decide_eq_true_eq, Bool.not_not, decide_eq_decide]; done) | (simp only [Bool.not_eq_true', Bool.not_eq_false', decide_eq_false_iff_not, decide_eq_true_eq, Bool.not_not, decide_eq_decide]; omega))
local macro_rules | `(tactic| purse 7014 => fail) => `(tactic| first | rfl | (refine decide_eq_false ?_; omega) | (simp only [Bool.not_eq_true', Bool.not_eq_false', decide_eq_false_iff_not, decide_eq_true_eq, Bool.not_not, decide_eq_decide]; done) | (simp only [Bool.not_eq_true', Bool.not_eq_false', decide_eq_false_iff_not, decide_eq_true_eq, Bool.not_not, decide_eq_decide]; omega))
local macro_rules | `(tactic| purse 7015 => fail) => `(tactic| ((refine g_yes ?h ?_); (case h => (purse 7013 => fail))))
local macro_rules | `(tactic| purse 7016 => fail) => `(tactic| ((refine g_no ?h ?_); (case h => (purse 7014 => fail))))
local macro_rules | `(tactic| purse 7017 => fail) => `(tactic| first | (purse 7015 => fail) | (purse 7016 => fail))
local macro_rules | `(tactic| purse 7018 => fail) => `(tactic| repeat ((purse 7012 => fail); (purse 7017 => fail)))
local macro_rules | `(tactic| purse 7019 => fail) => `(tactic| repeat (first | exact intIn_nil | refine intIn_cons (by omega) (by omega) ?_))
local macro_rules | `(tactic| purse 7020 => fail) => `(tactic| (simp only [List.length_cons, List.length_nil]; omega))
local macro_rules | `(tactic| purse 7021 => fail) => `(tactic| (refine g_two (fun c => ?_) (fun c => ?_) <;> first | (have c := of_decide_eq_true c) | (have c := of_decide_eq_false c) | skip))
local macro_rules | `(tactic| purse 7022 => fail) => `(tactic| ((purse 7018 => fail); (purse 7012 => fail); try ((purse 7021 => fail) <;> (purse 7022 => fail))))

local macro_rules | `(tactic| purse 7001 => fail) => `(tactic| first
  | (with_reducible refine use_wholeI ?_)
  | (with_reducible refine g_pow10_9 ?_)
  | ((with_reducible refine' use_time ?a0 ?a1 ?_); (case a0 => (purse 7011 => fail)); (case a1 => (purse 7011 => fail))))

/-! ways: what is checked -/
inductive Ats (H : Hp) : List V → List Ar → Prop where
  | nil : Ats H [] []
  | cons {t : Addr} {a : Ar} {vs : List V} {as : List Ar} (h : ArAt H t a) (r : Ats H vs as) : Ats H (.ref t :: vs) (a :: as)
theorem Ats.up {H H' : Hp} (u : Up H H') : ∀ {vs : List V} {as : List Ar}, Ats H vs as → Ats H' vs as
  | _, _, .nil => .nil
  | _, _, .cons h r => .cons (h.up u) (r.up u)
theorem Ats.len {H : Hp} : ∀ {vs : List V} {as : List Ar}, Ats H vs as → vs.length = as.length
  | _, _, .nil => rfl
  | _, _, .cons _ r => congrArg Nat.succ r.len
theorem Ats.get {H : Hp} : ∀ {vs : List V} {as : List Ar} {i : Nat} {v : V}, Ats H vs as → vs[i]? = some v → ∃ t a, v = .ref t ∧ as[i]? = some a ∧ ArAt H t a
  | _, _, 0, _, .cons h _, e => by cases e; exact ⟨_, _, rfl, rfl, h⟩
  | _, _, i + 1, _, .cons _ r, e => r.get (i := i) (by simpa using e)
theorem Ats.of {H : Hp} : ∀ {vs : List V} {as : List Ar}, Tls H vs (as.map v5) → Ats H vs as
  | _, [], .nil => .nil
  | _, a :: as, .cons h r => .cons (.inl h) (Ats.of r)
def RwAt (H : Hp) (r : Addr) (as : List Ar) : Prop := ∃ vs, Sqe H r vs ∧ Ats H vs as
theorem RwAt.up {H H' : Hp} {r : Addr} {as : List Ar} (u : Up H H') (h : RwAt H r as) : RwAt H' r as := by
  obtain ⟨vs, a, b⟩ := h
  exact ⟨vs, a.up u, b.up u⟩
def pr (a : Ar) : List Int := [(a.s : Int), (a.g : Int)]
inductive Rch (ns : List (List V)) (as : List Ar) : Nat → Prop where
  | mk {n : Nat} {xs : List V} (h : ns[n]? = some xs) (m : mkB xs = true) : Rch ns as n
  | go {a : Ar} (h : a ∈ as) (r : Rch ns as a.s) : Rch ns as a.g
structure WOk (ns : List (List V)) (as : List Ar) : Prop where
  n1 : 1 ≤ ns.length
  n2 : ns.length ≤ 12
  a1 : as.length ≤ 40
  dd : ∀ xs, xs ∈ ns → Dd xs
  ok : ∀ a, a ∈ as → ArOk ns a
  nd : (as.map pr).Nodup
  an : ∀ a, a ∈ as → a.w = "anew" → ∃ b, b ∈ as ∧ b.w ≠ "anew" ∧ b.s = a.g
  rc : ∀ n, n < ns.length → Rch ns as n
def spCkN : Sp := fun vs H Q _ => ∃ (n : Addr) (ns : List (List V)), vs = [.ref n] ∧ NdAt H n ns ∧ 1 ≤ ns.length ∧ ns.length ≤ 12 ∧ ∀ H', Up H H' → Q .non H'
def spCkA : Sp := fun vs H Q _ => ∃ (r n : Addr) (ns : List (List V)) (as : List Ar), vs = [.ref r, .ref n] ∧ RwAt H r as ∧ NdAt H n ns ∧ WOk ns as ∧ ∀ H', Up H H' → Q .non H'
def TpA (H : Hp) (t : Addr) (as : List Ar) : Prop := ∃ vs, H t = some (.tup vs) ∧ Tls H vs (as.map v5)
theorem TpA.up {H H' : Hp} {t : Addr} {as : List Ar} (u : Up H H') (h : TpA H t as) : TpA H' t as := by
  obtain ⟨vs, a, b⟩ := h
  exact ⟨vs, u _ _ a, b.up u⟩
def TpN (H : Hp) (t : Addr) (ns : List (List V)) : Prop := ∃ vs, H t = some (.tup vs) ∧ Tls H vs ns
theorem TpN.up {H H' : Hp} {t : Addr} {ns : List (List V)} (u : Up H H') (h : TpN H t ns) : TpN H' t ns := by
  obtain ⟨vs, a, b⟩ := h
  exact ⟨vs, u _ _ a, b.up u⟩
def spCkW : Sp := fun vs H Q _ => ∃ (t : Addr) (ns : List (List V)) (as : List Ar), vs = [.ref t] ∧ TpA H t as ∧ WOk ns as ∧ ∀ H', Up H H' → Q .non H'
def spCkR : Sp := fun vs H Q _ => ∃ (d t : Addr) (ns : List (List V)) (as : List Ar), vs = [.ref d, .ref t] ∧ TpN H d ns ∧ TpA H t as ∧ WOk ns as ∧ ∀ H', Up H H' → Q .non H'
theorem inV_ints {i : Int} {ns : List Int} : inV (.int i) (ns.map V.int) = decide (i ∈ ns) := by
  unfold inV
  rw [List.any_map]
  rw [show ((fun y => eqV y (V.int i)) ∘ V.int) = fun j : Int => decide (j = i) from rfl]
  rw [Bool.eq_iff_iff, List.any_eq_true, decide_eq_true_iff]
  constructor
  · rintro ⟨x, hx, e⟩
    rw [← of_decide_eq_true e]; exact hx
  · intro h
    exact ⟨i, h, decide_eq_true rfl⟩
theorem g_ninInts {K : PySem.W.Frag} {H : Hp} {p : Addr} {l : List Int} {Q : VK} {i : Int} (h : H p = some (.lst (l.map V.int))) (q : Q (.bl (!decide (i ∈ l))) H) : rIn K true (.int i) (.ref p) H Q :=
  ⟨p, _, rfl, .inl (SqL.of h), rfl, by rw [List.all_map]; exact List.all_eq_true.mpr fun _ _ => rfl, by rw [inV_ints]; exact q⟩
section
open He
variable {P : Program} {w : World} {K : PySem.W.Frag} {mg : Str → Option Value} {base : Heap} {f : Addr} {fd : FuncData}
theorem use_list {H : Hp} {a : Addr} {xs : List V} {Q : VK} {E : XK} (h : Sqe H a xs) (q : ∀ H', Up H H' → Q (.bl true) H') : spList [.ref a] H Q E := ⟨a, xs, rfl, h, q⟩
theorem ok_ckN (F : FnP K "check_nodes" "check_nodes" s_check_nodes f fd) (T : TW K w mg) (D_is_list : Dn P w K mg base 2 (ga K "is_list") ["value"] spList) (D_is_deed : Dn P w K mg base 6 (ga K "is_deed") ["value"] spDeed) : FnOk P w K mg base (L2.CX P w) 8 f fd ["nodes"] spCkN := by
  refine F.ok c_check_nodes (fun vs H Q E h => ?_) (fun cdv A outer s H vs Q E hr h => ⟨_, pss_cons (ps_if (PW.pt (pw_or (pt_not (pt_val (pe_dn D_is_list (rm hr) rfl T.g_is_list (passes_call (takes_of rfl rfl rfl rfl) fun _ _ _ _ h => h) (pa_cons (pv 0) (pa_nil))))) (pw_or1 (pt_not (pt_chain op_le op_le (pe_int) (pe_callB cl_len (by rfl) T.z_len (by decide +kernel) (pa_cons (pv 0) (pa_nil))) (pe_int))))))
      (pss_one (ps_never))
      (pss_nil))
      (pss_one (ps_for (passes_of rfl) rfl (pi_or (pi_enum rfl T.z_enumerate (pa_cons (pv 0) (pa_nil))) (pi_enumT rfl T.z_enumerate (pa_cons (pv 0) (pa_nil)))) (pg_tup (n := 2) rfl (pgs_cons (pg_name (i := 1) c_check_nodes.nd rfl (Or.inl rfl)) (pgs_cons (pg_name (i := 2) c_check_nodes.nd rfl (Or.inl rfl)) (pgs_nil))))
      (pss_one (ps_if (pt_not (pt_val (pe_dn D_is_deed (rm hr) rfl T.g_is_deed (passes_call (takes_of rfl rfl rfl rfl) fun _ _ _ _ h => h) (pa_cons (pv 2) (pa_nil)))))
      (pss_one (ps_never))
      (pss_nil))))), ?_⟩)
  · obtain ⟨n, ns, rfl, _⟩ := h
    rfl
  · obtain ⟨n, ns, rfl, ⟨⟨vs, hq, tl⟩, dd⟩, n1, n2, k⟩ := h
    have hl := tl.len
    (purse 7012 => fail)
    refine use_list hq fun H1 u1 => ?_
    have hq1 := hq.up u1
    (purse 7012 => fail)
    (purse 7016 => fail)
    (purse 7012 => fail)
    refine g_lene hq1 ?_
    (purse 7012 => fail)
    (purse 7015 => fail)
    (purse 7012 => fail)
    rw [decide_eq_true (show ((vs.length : Nat) : Int) ≤ 12 by omega)]
    (purse 7012 => fail)
    (purse 7016 => fail)
    (purse 7012 => fail)
    rcases hq1 with hq1 | hq1
    · refine for_inl ?_
      (purse 7012 => fail)
      refine ⟨n, vs, rfl, SqL.of hq1, for_enL (K := K) (xs := vs) (fun i σ' H' => ∃ o1 o2, σ' = [some (V.ref n), o1, o2] ∧ Up H1 H') ⟨none, none, rfl, Up.rfl'⟩ ?_ ?_ ?_⟩
      · rintro i σ' H' _ ⟨o1, o2, rfl, u⟩
        exact SqL.of (u _ _ hq1)
      · rintro i x σ' H' Tn hx ⟨o1, o2, rfl, u⟩ hT
        have uT := Up.new (o := .tup [.int (i : Nat), x]) hT
        refine g_gt2 (K := K) upd_same ?_
        generalize upd H' Tn (.tup [.int (i : Nat), x]) = H2 at uT ⊢
        obtain ⟨t, xs, rfl, hxs, ht⟩ := (tl.up (u1.trans (u.trans uT))).get hx
        (purse 7012 => fail)
        refine use_deed ht (dd _ (List.mem_of_getElem? hxs)) fun H3 u3 => ?_
        (purse 7012 => fail)
        (purse 7016 => fail)
        (purse 7012 => fail)
        exact ⟨_, _, rfl, u.trans (uT.trans u3)⟩
      · rintro σ' H' ⟨o1, o2, rfl, u⟩
        exact k _ (u1.trans u)
    · refine for_inr ?_
      (purse 7012 => fail)
      refine ⟨n, vs, rfl, SqT.of hq1, for_enT (K := K) (xs := vs) (fun i σ' H' => ∃ o1 o2, σ' = [some (V.ref n), o1, o2] ∧ Up H1 H') ⟨none, none, rfl, Up.rfl'⟩ ?_ ?_ ?_⟩
      · rintro i σ' H' _ ⟨o1, o2, rfl, u⟩
        exact SqT.of (u _ _ hq1)
      · rintro i x σ' H' Tn hx ⟨o1, o2, rfl, u⟩ hT
        have uT := Up.new (o := .tup [.int (i : Nat), x]) hT
        refine g_gt2 (K := K) upd_same ?_
        generalize upd H' Tn (.tup [.int (i : Nat), x]) = H2 at uT ⊢
        obtain ⟨t, xs, rfl, hxs, ht⟩ := (tl.up (u1.trans (u.trans uT))).get hx
        (purse 7012 => fail)
        refine use_deed ht (dd _ (List.mem_of_getElem? hxs)) fun H3 u3 => ?_
        (purse 7012 => fail)
        (purse 7016 => fail)
        (purse 7012 => fail)
        exact ⟨_, _, rfl, u.trans (uT.trans u3)⟩
      · rintro σ' H' ⟨o1, o2, rfl, u⟩
        exact k _ (u1.trans u)
/-- the set's word behind so many arrows -/
def SetW (P : Program) (w : World) (e : Addr) (as : List Ar) (H : Hp) : Prop := ∃ L : List (Addr × List Int), H e = some (SetTO P w e L) ∧ (∀ p ∈ L, H p.1 = some (.tup (p.2.map V.int))) ∧ (∀ k, k ∈ L.map (·.2) ↔ k ∈ as.map pr) ∧ L.length = as.length
theorem SetTO_ne {P : Program} {w : World} {e : Addr} {L : List (Addr × List Int)} {xs : List V} : SetTO P w e L ≠ .tup xs := by intro z; cases z
theorem ArAt.two {H : Hp} {t : Addr} {a : Ar} (h : ArAt H t a) : ∃ xs, H t = some (.tup xs) ∧ atI xs 0 = some (.int (a.s : Nat)) ∧ atI xs 1 = some (.int (a.g : Nat)) := h.elim (fun z => ⟨_, z, rfl, rfl⟩) fun z => ⟨_, z.2, rfl, rfl⟩
theorem ok_ckA (F : FnP K "check_arrows" "check_arrows" s_check_arrows f fd) (T : TW K w mg) (D_is_list : Dn P w K mg base 2 (ga K "is_list") ["value"] spList) (D_is_arrow : Dn P w K mg base 10 (ga K "is_arrow") ["value", "nodes"] spArrow) : FnOk P w K mg base (L2.CX P w) 12 f fd ["arrows", "nodes"] spCkA := by
  refine F.ok c_check_arrows (fun vs H Q E h => ?_) (fun cdv A outer s H vs Q E hr h => ⟨_, pss_cons (ps_if (PW.pt (pw_or (pt_not (pt_val (pe_dn D_is_list (rm hr) rfl T.g_is_list (passes_call (takes_of rfl rfl rfl rfl) fun _ _ _ _ h => h) (pa_cons (pv 0) (pa_nil))))) (pw_or1 (pt_cmpR op_gt (pe_callB cl_len (by rfl) T.z_len (by decide +kernel) (pa_cons (pv 0) (pa_nil))) (pe_int) (nomark _)))))
      (pss_one (ps_never))
      (pss_nil))
      (pss_cons (ps_set (i := 2) c_check_arrows.nd rfl (Or.inl rfl) (pe_callTy0 cr_set0T (by rfl) T.z_set (by decide +kernel)))
      (pss_one (ps_for (passes_of rfl) rfl (pi_or (pi_enum rfl T.z_enumerate (pa_cons (pv 0) (pa_nil))) (pi_enumT rfl T.z_enumerate (pa_cons (pv 0) (pa_nil)))) (pg_tup (n := 2) rfl (pgs_cons (pg_name (i := 3) c_check_arrows.nd rfl (Or.inl rfl)) (pgs_cons (pg_name (i := 4) c_check_arrows.nd rfl (Or.inl rfl)) (pgs_nil))))
      (pss_cons (ps_if (PW.pt (pw_or (pt_not (pt_val (pe_dn D_is_arrow (rm hr) rfl T.g_is_arrow (passes_call (takes_of rfl rfl rfl rfl) fun _ _ _ _ h => h) (pa_cons (pv 4) (pa_cons (pv 1) (pa_nil)))))) (pw_or1 (pt_cmpR (op_inT (Nat.lt_of_le_of_lt (Nat.add_le_add_left (show 3 ≤ 64 by decide) _) hr.units)) (pe_tup (pa_cons (pe_ix ix_tup (pv 4) (pe_int) (fun _ _ => rfl)) (pa_cons (pe_ix ix_tup (pv 4) (pe_int) (fun _ _ => rfl)) (pa_nil)))) (pv 2) (by rfl)))))
      (pss_one (ps_never))
      (pss_nil))
      (pss_one (ps_expr (pe_saddT (Nat.lt_of_le_of_lt (Nat.add_le_add_left (show 3 ≤ 64 by decide) _) hr.units) ((pv 2)) (pa_cons (pe_tup (pa_cons (pe_ix ix_tup (pv 4) (pe_int) (fun _ _ => rfl)) (pa_cons (pe_ix ix_tup (pv 4) (pe_int) (fun _ _ => rfl)) (pa_nil)))) (pa_nil))))))))), ?_⟩)
  · obtain ⟨r, n, ns, as, rfl, _⟩ := h
    rfl
  · obtain ⟨r, n, ns, as, rfl, ⟨vs, hq, ats⟩, hn, ok, k⟩ := h
    have hl := ats.len
    have a1 := ok.a1
    (purse 7012 => fail)
    refine use_list hq fun H1 u1 => ?_
    have hq1 := hq.up u1
    (purse 7012 => fail)
    (purse 7016 => fail)
    (purse 7012 => fail)
    refine g_lene hq1 ?_
    (purse 7012 => fail)
    (purse 7016 => fail)
    (purse 7012 => fail)
    refine ⟨rfl, fun e he => ?_⟩
    have heN := he
    have uX0 : UpX e H1 (upd H1 e (SetTO P w e [])) := UpX.set
    have s0 : upd H1 e (SetTO P w e []) e = some (SetTO P w e []) := upd_same
    (purse 7012 => fail)
    have fin : ∀ H' : Hp, UpX e H1 H' → Q .non H' := fun H' uX => k _ (u1.trans (uX.up heN))
    have body : ∀ (i : Nat) (x : V) (H2 : Hp), vs[i]? = some x → UpX e H1 H2 → ∃ t a xs, x = .ref t ∧ as[i]? = some a ∧ ArAt H2 t a ∧ H2 t = some (.tup xs) ∧ atI xs 0 = some (.int (a.s : Nat)) ∧ atI xs 1 = some (.int (a.g : Nat)) := fun i x H2 hx uX => by
      obtain ⟨t, a, rfl, ha, hta⟩ := ((ats.up u1).up (uX.up heN)).get hx
      obtain ⟨xs, h1, h2, h3⟩ := hta.two
      exact ⟨t, a, xs, rfl, ha, hta, h1, h2, h3⟩
    have sw0 : SetW P w e (as.take 0) (upd H1 e (SetTO P w e [])) := ⟨[], s0, fun _ h => (nomatch h), fun k => by simp, by simp⟩
    have eN : ∀ {H' : Hp} {L : List (Addr × List Int)}, H' e = some (SetTO P w e L) → ∀ {t : Addr} {xs : List V}, H' t = some (.tup xs) → t ≠ e := fun h t xs h2 z => by
      rw [z, h] at h2; cases h2
    rcases hq1 with hq1 | hq1
    · refine for_inl ?_
      (purse 7012 => fail)
      refine ⟨r, vs, rfl, SqL.of (uX0 _ _ (fun z => by rw [z, he] at hq1; cases hq1) hq1), for_enL (K := K) (xs := vs) (fun i σ' H' => ∃ o1 o2, σ' = [some (V.ref r), some (V.ref n), some (V.ref e), o1, o2] ∧ UpX e H1 H' ∧ SetW P w e (as.take i) H') ⟨none, none, rfl, uX0, sw0⟩ ?_ ?_ ?_⟩
      · rintro i σ' H' _ ⟨o1, o2, rfl, u, _⟩
        exact SqL.of (u _ _ (fun z => by rw [z, he] at hq1; cases hq1) hq1)
      · rintro i x σ' H' Tn hx ⟨o1, o2, rfl, uX, sw⟩ hT
        have uT := Up.new (o := .tup [.int (i : Nat), x]) hT
        refine g_gt2 (K := K) upd_same ?_
        generalize upd H' Tn (.tup [.int (i : Nat), x]) = H2 at uT ⊢
        have uX2 := uX.trans uT.toX
        obtain ⟨t, a, xs, rfl, ha, hta, ht, e0, e1⟩ := body i x H2 hx uX2
        have am := List.mem_of_getElem? ha
        have hil : i < as.length := (List.getElem?_eq_some_iff.mp ha).1
        (purse 7012 => fail)
        refine ⟨t, n, a, ns, rfl, hta, (hn.up u1).up (uX2.up heN), ok.ok a am, fun H3 u3 => ?_⟩
        (purse 7012 => fail)
        (purse 7016 => fail)
        (purse 7012 => fail)
        refine g_ixT (u3 _ _ ht) e0 ?_
        (purse 7012 => fail)
        refine g_ixT (u3 _ _ ht) e1 ?_
        (purse 7012 => fail)
        refine g_t0 (by rfl) fun p hp => ?_
        have u4 := Up.new (o := .tup [.int (a.s : Nat), .int (a.g : Nat)]) hp
        have hp4 : upd H3 p (.tup [.int (a.s : Nat), .int (a.g : Nat)]) p = some (.tup [.int (a.s : Nat), .int (a.g : Nat)]) := upd_same
        generalize upd H3 p (.tup [.int (a.s : Nat), .int (a.g : Nat)]) = H4 at u4 hp4 ⊢
        have u24 := uT.trans (u3.trans u4)
        obtain ⟨L, sL, tL, kL, nL⟩ := sw
        have hnew : pr a ∉ L.map (·.2) := by
          rw [kL]
          intro z
          obtain ⟨b, hb, eb⟩ := List.mem_map.mp z
          obtain ⟨j, hj⟩ := List.getElem?_of_mem hb
          have hji : j < i := by
            have := (List.getElem?_eq_some_iff.mp hj).1
            rw [List.length_take] at this; omega
          rw [List.getElem?_take_of_lt hji] at hj
          have q1 : (as.map pr)[j]? = some (pr a) := by rw [List.getElem?_map, hj, ← eb]; rfl
          have q2 : (as.map pr)[i]? = some (pr a) := by rw [List.getElem?_map, ha]; rfl
          have hjl := (List.getElem?_eq_some_iff.mp hj).1
          have := (List.getElem?_inj (by rw [List.length_map]; omega) ok.nd).mp (q1.trans q2.symm)
          omega
        (purse 7012 => fail)
        refine ⟨p, e, pr a, L, rfl, rfl, SqT.of hp4, u24 _ _ sL, fun z hz => SqT.of (u24 _ _ (tL z hz)), ?_⟩
        rw [decide_eq_false hnew]
        (purse 7012 => fail)
        (purse 7016 => fail)
        (purse 7012 => fail)
        refine ⟨⟨e, L, rfl, u24 _ _ sL, fun z hz => SqT.of (u24 _ _ (tL z hz))⟩, ?_⟩
        (purse 7012 => fail)
        refine g_ixT (u4 _ _ (u3 _ _ ht)) e0 ?_
        (purse 7012 => fail)
        refine g_ixT (u4 _ _ (u3 _ _ ht)) e1 ?_
        (purse 7012 => fail)
        refine g_t0 (by rfl) fun p2 hp2 => ?_
        have u5 := Up.new (o := .tup [.int (a.s : Nat), .int (a.g : Nat)]) hp2
        have hp5 : upd H4 p2 (.tup [.int (a.s : Nat), .int (a.g : Nat)]) p2 = some (.tup [.int (a.s : Nat), .int (a.g : Nat)]) := upd_same
        generalize upd H4 p2 (.tup [.int (a.s : Nat), .int (a.g : Nat)]) = H5 at u5 hp5 ⊢
        have u25 := u24.trans u5
        refine ⟨e, p2, pr a, L, rfl, rfl, u25 _ _ sL, SqT.of hp5, fun z hz => SqT.of (u25 _ _ (tL z hz)), by rw [nL, List.length_take]; omega, hnew, fun L' pm => ?_⟩
        refine ⟨_, _, rfl, (uX.trans u25.toX).trans UpX.set, L', upd_same, fun z hz => ?_, fun k' => ?_, ?_⟩
        · have hz' := pm.mem_iff.mp hz
          have hz5 : H5 z.1 = some (.tup (z.2.map V.int)) := by
            rcases List.mem_cons.mp hz' with rfl | hz'
            · exact hp5
            · exact u25 _ _ (tL z hz')
          rw [upd_ne (eN (u25 _ _ sL) hz5)]
          exact hz5
        · rw [(pm.map _).mem_iff, List.map_cons, List.mem_cons, kL, List.take_add_one, ha, List.map_append, List.mem_append]
          simp [or_comm]
        · rw [pm.length_eq, List.length_cons, nL, List.length_take, List.length_take]; omega
      · rintro σ' H' ⟨o1, o2, rfl, u, _⟩
        exact fin _ u
    · refine for_inr ?_
      (purse 7012 => fail)
      refine ⟨r, vs, rfl, SqT.of (uX0 _ _ (fun z => by rw [z, he] at hq1; cases hq1) hq1), for_enT (K := K) (xs := vs) (fun i σ' H' => ∃ o1 o2, σ' = [some (V.ref r), some (V.ref n), some (V.ref e), o1, o2] ∧ UpX e H1 H' ∧ SetW P w e (as.take i) H') ⟨none, none, rfl, uX0, sw0⟩ ?_ ?_ ?_⟩
      · rintro i σ' H' _ ⟨o1, o2, rfl, u, _⟩
        exact SqT.of (u _ _ (fun z => by rw [z, he] at hq1; cases hq1) hq1)
      · rintro i x σ' H' Tn hx ⟨o1, o2, rfl, uX, sw⟩ hT
        have uT := Up.new (o := .tup [.int (i : Nat), x]) hT
        refine g_gt2 (K := K) upd_same ?_
        generalize upd H' Tn (.tup [.int (i : Nat), x]) = H2 at uT ⊢
        have uX2 := uX.trans uT.toX
        obtain ⟨t, a, xs, rfl, ha, hta, ht, e0, e1⟩ := body i x H2 hx uX2
        have am := List.mem_of_getElem? ha
        have hil : i < as.length := (List.getElem?_eq_some_iff.mp ha).1
        (purse 7012 => fail)
        refine ⟨t, n, a, ns, rfl, hta, (hn.up u1).up (uX2.up heN), ok.ok a am, fun H3 u3 => ?_⟩
        (purse 7012 => fail)
        (purse 7016 => fail)
        (purse 7012 => fail)
        refine g_ixT (u3 _ _ ht) e0 ?_
        (purse 7012 => fail)
        refine g_ixT (u3 _ _ ht) e1 ?_
        (purse 7012 => fail)
        refine g_t0 (by rfl) fun p hp => ?_
        have u4 := Up.new (o := .tup [.int (a.s : Nat), .int (a.g : Nat)]) hp
        have hp4 : upd H3 p (.tup [.int (a.s : Nat), .int (a.g : Nat)]) p = some (.tup [.int (a.s : Nat), .int (a.g : Nat)]) := upd_same
        generalize upd H3 p (.tup [.int (a.s : Nat), .int (a.g : Nat)]) = H4 at u4 hp4 ⊢
        have u24 := uT.trans (u3.trans u4)
        obtain ⟨L, sL, tL, kL, nL⟩ := sw
        have hnew : pr a ∉ L.map (·.2) := by
          rw [kL]
          intro z
          obtain ⟨b, hb, eb⟩ := List.mem_map.mp z
          obtain ⟨j, hj⟩ := List.getElem?_of_mem hb
          have hji : j < i := by
            have := (List.getElem?_eq_some_iff.mp hj).1
            rw [List.length_take] at this; omega
          rw [List.getElem?_take_of_lt hji] at hj
          have q1 : (as.map pr)[j]? = some (pr a) := by rw [List.getElem?_map, hj, ← eb]; rfl
          have q2 : (as.map pr)[i]? = some (pr a) := by rw [List.getElem?_map, ha]; rfl
          have hjl := (List.getElem?_eq_some_iff.mp hj).1
          have := (List.getElem?_inj (by rw [List.length_map]; omega) ok.nd).mp (q1.trans q2.symm)
          omega
        (purse 7012 => fail)
        refine ⟨p, e, pr a, L, rfl, rfl, SqT.of hp4, u24 _ _ sL, fun z hz => SqT.of (u24 _ _ (tL z hz)), ?_⟩
        rw [decide_eq_false hnew]
        (purse 7012 => fail)
        (purse 7016 => fail)
        (purse 7012 => fail)
        refine ⟨⟨e, L, rfl, u24 _ _ sL, fun z hz => SqT.of (u24 _ _ (tL z hz))⟩, ?_⟩
        (purse 7012 => fail)
        refine g_ixT (u4 _ _ (u3 _ _ ht)) e0 ?_
        (purse 7012 => fail)
        refine g_ixT (u4 _ _ (u3 _ _ ht)) e1 ?_
        (purse 7012 => fail)
        refine g_t0 (by rfl) fun p2 hp2 => ?_
        have u5 := Up.new (o := .tup [.int (a.s : Nat), .int (a.g : Nat)]) hp2
        have hp5 : upd H4 p2 (.tup [.int (a.s : Nat), .int (a.g : Nat)]) p2 = some (.tup [.int (a.s : Nat), .int (a.g : Nat)]) := upd_same
        generalize upd H4 p2 (.tup [.int (a.s : Nat), .int (a.g : Nat)]) = H5 at u5 hp5 ⊢
        have u25 := u24.trans u5
        refine ⟨e, p2, pr a, L, rfl, rfl, u25 _ _ sL, SqT.of hp5, fun z hz => SqT.of (u25 _ _ (tL z hz)), by rw [nL, List.length_take]; omega, hnew, fun L' pm => ?_⟩
        refine ⟨_, _, rfl, (uX.trans u25.toX).trans UpX.set, L', upd_same, fun z hz => ?_, fun k' => ?_, ?_⟩
        · have hz' := pm.mem_iff.mp hz
          have hz5 : H5 z.1 = some (.tup (z.2.map V.int)) := by
            rcases List.mem_cons.mp hz' with rfl | hz'
            · exact hp5
            · exact u25 _ _ (tL z hz')
          rw [upd_ne (eN (u25 _ _ sL) hz5)]
          exact hz5
        · rw [(pm.map _).mem_iff, List.map_cons, List.mem_cons, kL, List.take_add_one, ha, List.map_append, List.mem_append]
          simp [or_comm]
        · rw [pm.length_eq, List.length_cons, nL, List.length_take, List.length_take]; omega
      · rintro σ' H' ⟨o1, o2, rfl, u, _⟩
        exact fin _ u
end

end KW
namespace KW
open PySem PySem.Spec PyProof.Rows L2 AF
open K1
open C8 (pe_gc)
local macro_rules | `(tactic| purse 7003 => fail) => `(tactic| k_dflt (refine Sh.has_ (by assumption) ?_; repeat (first | exact On.here | apply On.next)))
local macro_rules | `(tactic| purse 7004 => fail) => `(tactic| k_dflt (repeat (first | exact On.here | apply On.next)))
local macro_rules | `(tactic| purse 7005 => fail) => `(tactic| (repeat (first | exact Rep.here | apply Rep.next)))
local macro_rules | `(tactic| purse 7006 => fail) => `(tactic| (exact Sh.out (by assumption) (fun b h => by simp [h])))
local macro_rules | `(tactic| purse 7007 => fail) => `(tactic| k_dflt (first | ((with_reducible refine cdivw ?_ ?_) <;> omega) | ((with_reducible show CDiv _ _); constructor <;> omega) | ((with_reducible show CMul _ _); (first | (left; constructor <;> omega) | (right; constructor <;> omega))) | (show (0 : Int) < _; omega)))
local macro_rules | `(tactic| purse 7008 => fail) => `(tactic| first | exact Kd.int _ | exact Kd.bl _ | exact Kd.non | exact Kd.str _ | exact Kd.ins (by (purse 7003 => fail)) | exact Kd.lst (by (purse 7003 => fail)) | exact Kd.tup (by (purse 7003 => fail)))
local macro_rules | `(tactic| purse 7009 => fail) => `(tactic| first | exact DpAll.nil | (apply DpAll.cons; (purse 7010 => fail); (purse 7009 => fail)))
local macro_rules | `(tactic| purse 7010 => fail) => `(tactic| first | exact Dp.int _ | exact Dp.bl _ | exact Dp.non | exact Dp.str _ | (refine dp_int ?_; omega) | (refine dp_bl ?_; simp only [decide_eq_decide]; omega) | (apply dp_lst; (purse 7003 => fail); (purse 7009 => fail)) | (apply dp_tup; (purse 7003 => fail); (purse 7009 => fail)))
local macro_rules | `(tactic| purse 7011 => fail) => `(tactic| first | assumption | omega)
local macro_rules | `(tactic| purse 7001 => fail) => `(tactic| fail "no use")
local macro_rules | `(tactic| purse 7002 => fail) => `(tactic| first
  | (with_reducible refine set_go ?_)
  | (with_reducible refine Step.go ?_)
  | (with_reducible first | refine g_pow10_6 ?_ | refine g_pow10_7 ?_ | refine g_pow10_18 ?_ | refine g_pow10_29 ?_ | refine g_pow10_30 ?_)
  | ((with_reducible refine' g_I ?a0 ?_); (case a0 => (purse 7007 => fail)))
  | ((with_reducible refine' g_ixL ?a0 ?a1 ?_); (case a0 => (purse 7003 => fail)); (case a1 => k_dflt (exact rfl)))
  | ((with_reducible refine' g_kfld ?a0 ?a1 ?a2 ?a3 ?_); (case a0 => (purse 7003 => fail)); (case a1 => k_dflt (assumption)); (case a2 => k_dflt (assumption)); (case a3 => k_dflt (exact rfl)))
  | ((with_reducible refine' g_kprop ?a0 ?_); (case a0 => (purse 7003 => fail)))
  | ((with_reducible refine' g_kmeth ?a0 ?a1 ?_); (case a0 => (purse 7003 => fail)); (case a1 => k_dflt (exact rfl)))
  | ((with_reducible refine' g_own ?a0 ?a1 ?a2 ?_); (case a0 => (purse 7003 => fail)); (case a1 => (purse 7008 => fail)); (case a2 => k_dflt (assumption)))
  | ((with_reducible refine' g_cmp ?a0 ?a1 ?a2 ?_); (case a0 => (purse 7003 => fail)); (case a1 => (purse 7008 => fail)); (case a2 => k_dflt (assumption)))
  | ((with_reducible refine' g_neq ?a0 ?a1 ?a2 ?_); (case a0 => (purse 7003 => fail)); (case a1 => (purse 7008 => fail)); (case a2 => k_dflt (assumption)))
  | ((with_reducible refine' g_right ?a0 ?_); (case a0 => (purse 7003 => fail)))
  | ((with_reducible refine' use_draw ?a0 ?a1 ?a2 ?a3 ?a4 ?_); (case a0 => assumption); (case a1 => intro _ _; (purse 7005 => fail)); (case a2 => assumption); (case a3 => (purse 7011 => fail)); (case a4 => (purse 7011 => fail)); intro _ _ _ _ _ _ _ _)
  | ((with_reducible refine' use_giveI ?a0 ?a1 ?a2 ?_); (case a0 => assumption); (case a1 => intro _ _; (purse 7005 => fail)); (case a2 => assumption); intro _ _ _ _ _ _ _ _)
  | ((with_reducible refine' use_source ?a0 ?a1 ?_); (case a0 => assumption); (case a1 => k_dflt (assumption)); intro _ _ _ _ _ _)
  | (with_reducible refine g_absN ?_; intro _ _)
  | (with_reducible refine g_maxN ?_; intro _ _ _ _)
  | (with_reducible refine g_minN ?_; intro _ _ _ _)
  | ((with_reducible refine' g_kR1 ?a0 ?a1 ?_); (case a0 => omega); (case a1 => omega))
  | ((with_reducible refine' g_neD ?a0 ?a1 ?a2 ?_); (case a0 => (purse 7010 => fail)); (case a1 => (purse 7010 => fail)); (case a2 => k_dflt (rfl)))
  | ((with_reducible refine' g_eqD ?a0 ?a1 ?a2 ?_); (case a0 => (purse 7010 => fail)); (case a1 => (purse 7010 => fail)); (case a2 => k_dflt (rfl)))
  | ((with_reducible refine' g_klst ?a0 ?a1 ?_); (case a0 => assumption); (case a1 => k_dflt (exact rfl)); intro _ _ _ _)
  | ((with_reducible refine' g_ktup ?a0 ?a1 ?_); (case a0 => assumption); (case a1 => k_dflt (exact rfl)); intro _ _ _ _)
  | ((with_reducible refine' g_setL ?a0 ?a1 ?a2 ?_); (case a0 => assumption); (case a1 => (purse 7005 => fail)); (case a2 => k_dflt (exact rfl)); intro _ _)
  | ((with_reducible refine' g_unl3 ?a0 ?_); (case a0 => (purse 7003 => fail)))
  | (purse 7001 => fail))
local macro_rules | `(tactic| purse 7012 => fail) => `(tactic| ((try (with_reducible refine start_go ?_)); repeat (purse 7002 => fail)))
local macro_rules | `(tactic| purse 7013 => fail) => `(tactic| first | rfl | (refine decide_eq_true ?_; omega) | (simp only [Bool.not_eq_true', Bool.not_eq_false', decide_eq_false_iff_not, decide_eq_true_eq, Bool.not_not, decide_eq_decide]; done) | (simp only [Bool.not_eq_true', Bool.not_eq_false', decide_eq_false_iff_not, decide_eq_true_eq, Bool.not_not, decide_eq_decide]; omega))
local macro_rules | `(tactic| purse 7014 => fail) => `(tactic| first | rfl | (refine decide_eq_false ?_; omega) | (simp only [Bool.not_eq_true', Bool.not_eq_false', decide_eq_false_iff_not, decide_eq_true_eq, Bool.not_not, decide_eq_decide]; done) | (simp only [Bool.not_eq_true', Bool.not_eq_false', decide_eq_false_iff_not, decide_eq_true_eq, Bool.not_not, decide_eq_decide]; omega))
local macro_rules | `(tactic| purse 7015 => fail) => `(tactic| ((refine g_yes ?h ?_); (case h => (purse 7013 => fail))))
local macro_rules | `(tactic| purse 7016 => fail) => `(tactic| ((refine g_no ?h ?_); (case h => (purse 7014 => fail))))
local macro_rules | `(tactic| purse 7017 => fail) => `(tactic| first | (purse 7015 => fail) | (purse 7016 => fail))
local macro_rules | `(tactic| purse 7018 => fail) => `(tactic| repeat ((purse 7012 => fail); (purse 7017 => fail)))
local macro_rules | `(tactic| purse 7019 => fail) => `(tactic| repeat (first | exact intIn_nil | refine intIn_cons (by omega) (by omega) ?_))
local macro_rules | `(tactic| purse 7020 => fail) => `(tactic| (simp only [List.length_cons, List.length_nil]; omega))
local macro_rules | `(tactic| purse 7021 => fail) => `(tactic| (refine g_two (fun c => ?_) (fun c => ?_) <;> first | (have c := of_decide_eq_true c) | (have c := of_decide_eq_false c) | skip))
local macro_rules | `(tactic| purse 7022 => fail) => `(tactic| ((purse 7018 => fail); (purse 7012 => fail); try ((purse 7021 => fail) <;> (purse 7022 => fail))))

local macro_rules | `(tactic| purse 7001 => fail) => `(tactic| first
  | (with_reducible refine use_wholeI ?_)
  | (with_reducible refine g_pow10_9 ?_)
  | ((with_reducible refine' use_time ?a0 ?a1 ?_); (case a0 => (purse 7011 => fail)); (case a1 => (purse 7011 => fail))))

/-! ways: the words anew, what is reached -/
theorem range_len : ∀ (n : Nat) (l : List Nat), l.Nodup → (∀ x ∈ l, x < n) → l.length ≤ n
  | 0, [], _, _ => Nat.le_refl _
  | 0, x :: _, _, h => absurd (h x (.head _)) (Nat.not_lt_zero _)
  | n + 1, l, nd, h => by
    by_cases m : n ∈ l
    · have e := List.length_erase_of_mem m
      have := range_len n (l.erase n) (nd.erase n) fun x hx => by
        have := (nd.mem_erase_iff).mp hx
        have := h x this.2
        omega
      omega
    · have := range_len n l nd fun x hx => by
        have h1 := h x hx
        have h2 : x ≠ n := fun z => m (z ▸ hx)
        omega
      omega
instance {i : Nat} {x : V} {σ σ' : L2.St} {H : Hp} {q : L2.St → Hp → Prop} [h : SetI σ i x σ'] : Step (gName i x σ H q) (q σ' H) := ⟨fun k => by show q (σ.set i (some x)) H; rw [h.eq]; exact k⟩
def mkAt (ns : List (List V)) (k : Nat) : Bool := (ns[k]?.map mkB).getD false
def Clo (as : List Ar) (x : Nat) (R : List Nat) : Prop := ∀ a ∈ as, a.s = x → a.g ∈ R
structure Rk1 (ns : List (List V)) (as : List Ar) (R W : List Nat) : Prop where
  nd : R.Nodup
  lt : ∀ x ∈ R, x < ns.length
  sub : ∀ x ∈ W, x ∈ R
  mks : ∀ k, mkAt ns k = true → k ∈ R
  cl : ∀ x ∈ R, x ∈ W ∨ Clo as x R
structure Rk2 (ns : List (List V)) (as : List Ar) (nd0 i : Nat) (R W : List Nat) : Prop where
  nd : R.Nodup
  lt : ∀ x ∈ R, x < ns.length
  sub : ∀ x ∈ W, x ∈ R
  mks : ∀ k, mkAt ns k = true → k ∈ R
  nin : nd0 ∈ R
  cl : ∀ x ∈ R, x ∈ W ∨ x = nd0 ∨ Clo as x R
  dn : ∀ a ∈ as.take i, a.s = nd0 → a.g ∈ R
section
variable {ns : List (List V)} {as : List Ar} {n i : Nat} {R W : List Nat} {a : Ar}
theorem Rk1.pop (h : Rk1 ns as R (W ++ [n])) : Rk2 ns as n 0 R W :=
  ⟨h.nd, h.lt, fun x hx => h.sub x (List.mem_append_left _ hx), h.mks, h.sub n (List.mem_append_right _ (.head _)), fun x hx => by
    rcases h.cl x hx with z | z
    · rcases List.mem_append.mp z with z | z
      · exact .inl z
      · exact .inr (.inl (List.mem_singleton.mp z))
    · exact .inr (.inr z), fun a h => by simp at h⟩
theorem Rk2.skip (h : Rk2 ns as n i R W) (ha : as[i]? = some a) (no : a.s = n → a.g ∈ R) : Rk2 ns as n (i + 1) R W :=
  ⟨h.nd, h.lt, h.sub, h.mks, h.nin, h.cl, fun b hb e => by
    rw [List.take_add_one, ha, List.mem_append] at hb
    rcases hb with hb | hb
    · exact h.dn b hb e
    · obtain rfl : b = a := by simpa using hb
      exact no e⟩
theorem Rk2.put (h : Rk2 ns as n i R W) (ha : as[i]? = some a) (new : a.g ∉ R) (lt : a.g < ns.length) : Rk2 ns as n (i + 1) (R ++ [a.g]) (W ++ [a.g]) :=
  ⟨by rw [List.nodup_append]; exact ⟨h.nd, by simp, fun x hx y hy => by rw [List.mem_singleton.mp hy]; exact fun z => new (z ▸ hx)⟩, fun x hx => by
    rcases List.mem_append.mp hx with z | z
    · exact h.lt x z
    · rw [List.mem_singleton.mp z]; exact lt, fun x hx => by
    rcases List.mem_append.mp hx with z | z
    · exact List.mem_append_left _ (h.sub x z)
    · exact List.mem_append_right _ z, fun k hk => List.mem_append_left _ (h.mks k hk), List.mem_append_left _ h.nin, fun x hx => by
    rcases List.mem_append.mp hx with z | z
    · rcases h.cl x z with z | z | z
      · exact .inl (List.mem_append_left _ z)
      · exact .inr (.inl z)
      · exact .inr (.inr fun b hb e => List.mem_append_left _ (z b hb e))
    · exact .inl (List.mem_append_right _ z), fun b hb e => by
    rw [List.take_add_one, ha, List.mem_append] at hb
    rcases hb with hb | hb
    · exact List.mem_append_left _ (h.dn b hb e)
    · obtain rfl : b = a := by simpa using hb
      exact List.mem_append_right _ (.head _)⟩
theorem Rk2.done (h : Rk2 ns as n as.length R W) : Rk1 ns as R W :=
  ⟨h.nd, h.lt, h.sub, h.mks, fun x hx => by
    rcases h.cl x hx with z | z | z
    · exact .inl z
    · exact .inr fun b hb e => h.dn b (by rw [List.take_length]; exact hb) (e.trans z)
    · exact .inr z⟩
theorem Rk1.all (h : Rk1 ns as R []) : ∀ {k : Nat}, Rch ns as k → k ∈ R := by
  intro k r
  induction r with
  | mk e m => exact h.mks _ (by unfold mkAt; rw [e]; exact m)
  | go ha _ ih =>
    rcases h.cl _ ih with z | z
    · cases z
    · exact z _ ha rfl
end
def nts (l : List Nat) : List V := l.map fun k => V.int (k : Nat)
theorem ints_app (l : List Nat) (k : Nat) : nts (l ++ [k]) = nts l ++ [.int (k : Nat)] := by unfold nts; rw [List.map_append]; rfl
theorem inV_nats {i : Nat} {l : List Nat} : inV (.int (i : Nat)) (nts l) = decide (i ∈ l) := by
  rw [show nts l = (l.map fun k => ((k : Nat) : Int)).map V.int by unfold nts; rw [List.map_map]; rfl, inV_ints]
  rw [decide_eq_decide]
  constructor
  · intro h
    obtain ⟨j, hj, e⟩ := List.mem_map.mp h
    have : j = i := by omega
    exact this ▸ hj
  · intro h
    exact List.mem_map.mpr ⟨i, h, rfl⟩
theorem g_ninNats {K : PySem.W.Frag} {H : Hp} {p : Addr} {l : List Nat} {Q : VK} {i : Nat} (h : H p = some (.lst (nts l))) (q : Q (.bl (!decide (i ∈ l))) H) : rIn K true (.int (i : Nat)) (.ref p) H Q :=
  ⟨p, _, rfl, .inl (SqL.of h), rfl, by unfold nts; rw [List.all_map]; exact List.all_eq_true.mpr fun _ _ => rfl, by rw [inV_nats]; exact q⟩
def usedOf (as : List Ar) : List Nat := (as.filter fun a : Ar => decide (a.w ≠ "anew")).map (·.s)
theorem take_used {as : List Ar} {i : Nat} {a : Ar} (h : as[i]? = some a) : usedOf (as.take (i + 1)) = usedOf (as.take i) ++ (if a.w = "anew" then [] else [a.s]) := by
  have e : as.take (i + 1) = as.take i ++ [a] := by rw [List.take_add_one, h]; rfl
  unfold usedOf
  rw [e, List.filter_append, List.map_append]
  by_cases z : a.w = "anew" <;> simp [z]
theorem Tls.getA {H : Hp} {vs : List V} {as : List Ar} {i : Nat} {v : V} (h : Tls H vs (as.map v5)) (e : vs[i]? = some v) : ∃ t a, v = .ref t ∧ as[i]? = some a ∧ H t = some (.tup (v5 a)) := by
  obtain ⟨t, xs, e1, e2, e3⟩ := h.get e
  rw [List.getElem?_map] at e2
  cases z : as[i]? with
  | none => rw [z] at e2; cases e2
  | some a => rw [z] at e2; cases e2; exact ⟨t, a, e1, rfl, e3⟩
section
open He
variable {P : Program} {w : World} {K : PySem.W.Frag} {mg : Str → Option Value} {base : Heap} {f : Addr} {fd : FuncData}
theorem ok_ckW (F : FnP K "check_anew" "check_anew" s_check_anew f fd) (T : TW K w mg) : FnOk P w K mg base (L2.CX P w) 2 f fd ["links"] spCkW := by
  refine F.ok c_check_anew (fun vs H Q E h => ?_) (fun cdv A outer s H vs Q E hr h => ⟨_, pss_cons (ps_setLc (i := 2) (own := [("link", 1)]) (g := gName 1) rfl c_check_anew.nd rfl rfl (sw_true rfl rfl rfl rfl) (pi_tup (pv 0)) (blkOk_by (own := [("link", 1)]) (N := ["links", "link", "used", "index"]) (sc := defScope s_check_anew) (by decide +kernel)) (fun _ _ _ _ _ => pg_name (i := 1) c_check_anew.nd rfl (Or.inl rfl)) (fun _ _ _ _ _ => pts_one (pt_cmpR op_ne (pe_ix (ix_tupK (K := K)) (pv 1) (pe_int) (fun _ _ => rfl)) (pe_str) (nomark _))) (fun _ _ _ _ _ => pe_ix (ix_tupK (K := K)) (pv 1) (pe_int) (fun _ _ => rfl)))
      (pss_one (ps_for (passes_of rfl) rfl (pi_enumT rfl T.z_enumerate (pa_cons (pv 0) (pa_nil))) (pg_tup (n := 2) rfl (pgs_cons (pg_name (i := 3) c_check_anew.nd rfl (Or.inl rfl)) (pgs_cons (pg_name (i := 1) c_check_anew.nd rfl (Or.inl rfl)) (pgs_nil))))
      (pss_one (ps_if (PW.pt (pw_and (pt_cmpR op_eq (pe_ix ix_tup (pv 1) (pe_int) (fun _ _ => rfl)) (pe_str) (nomark _)) (pw_and1 (pt_cmpR op_notIn_seq (pe_ix ix_tup (pv 1) (pe_int) (fun _ _ => rfl)) (pv 2) (by rfl)))))
      (pss_one (ps_never))
      (pss_nil))))), ?_⟩)
  · obtain ⟨t, ns, as, rfl, _⟩ := h
    rfl
  · obtain ⟨t, ns, as, rfl, ⟨vs, ht, tl⟩, ok, k⟩ := h
    have hl := tl.len
    rw [List.length_map] at hl
    have a1 := ok.a1
    (purse 7012 => fail)
    refine g_lcTA (K := K) (xs := vs) (fun _ => False) (fun i acc H' => Up H H' ∧ acc = nts (usedOf (as.take i))) (fun _ z => z.elim) (by omega) ⟨Up.rfl', by simp [usedOf, nts]⟩ (fun i acc H' p o hp h => ⟨Up.setF h.1 hp, h.2⟩) (fun i acc H' h => SqT.of (h.1 _ _ ht)) (fun i acc H' x hx hG R N hR hN => ⟨rfl, ?_⟩) fun D acc H1 hD hG hL hacc => ?_
    · obtain ⟨uH, rfl⟩ := hG
      obtain ⟨q, a, rfl, ha, hq⟩ := Tls.getA (tl.up uH) hx
      have eu := take_used ha
      rw [show (List.set (wipe [some (V.ref t), none, none, none] (List.map (fun x => x.snd) [(Str.ofString "link", 1)])) 1 (some (V.ref q))) = [some (V.ref t), some (V.ref q), none, none] from rfl]
      (purse 7012 => fail)
      refine g_ixT hq rfl ?_
      (purse 7012 => fail)
      refine g_neS rfl ?_
      rw [dec_strE]
      (purse 7012 => fail)
      by_cases z : a.w = "anew"
      · rw [decide_eq_true z]
        (purse 7016 => fail)
        rw [if_pos z, List.append_nil] at eu
        exact hN H' UpS.rfl' ⟨uH, by rw [eu]⟩
      · rw [decide_eq_false z]
        (purse 7015 => fail)
        (purse 7012 => fail)
        refine g_ixT hq rfl ?_
        rw [if_neg z] at eu
        exact hR _ H' UpS.rfl' ⟨uH, by rw [eu, ints_app]⟩
    obtain ⟨u1, rfl⟩ := hG
    rw [show vs.length = as.length from hl, List.take_length] at hL
    (purse 7012 => fail)
    have ht1 := u1 _ _ ht
    refine ⟨t, vs, rfl, SqT.of ht1, for_enT (K := K) (xs := vs) (fun i σ' H' => ∃ o1 o2, σ' = [some (V.ref t), o1, some (V.ref D), o2] ∧ Up H1 H') ⟨_, _, rfl, Up.rfl'⟩ ?_ ?_ ?_⟩
    · rintro i σ' H' _ ⟨o1, o2, rfl, u⟩
      exact SqT.of (u _ _ ht1)
    · rintro i x σ' H' Tn hx ⟨o1, o2, rfl, u⟩ hT
      have uT := Up.new (o := .tup [.int (i : Nat), x]) hT
      refine g_gt2 (K := K) upd_same ?_
      generalize upd H' Tn (.tup [.int (i : Nat), x]) = H2 at uT ⊢
      have u2 := u.trans uT
      obtain ⟨q, a, rfl, ha, hq⟩ := Tls.getA (tl.up (u1.trans u2)) hx
      (purse 7012 => fail)
      refine g_ixT hq rfl ?_
      (purse 7012 => fail)
      refine g_eqS rfl ?_
      rw [dec_strE]
      (purse 7012 => fail)
      by_cases z : a.w = "anew"
      · rw [decide_eq_true z]
        (purse 7015 => fail)
        (purse 7012 => fail)
        refine g_ixT hq rfl ?_
        (purse 7012 => fail)
        refine g_ninNats (u2 _ _ hL) ?_
        have used : a.g ∈ usedOf as := by
          obtain ⟨b, hb, hw, hs⟩ := ok.an a (List.mem_of_getElem? ha) z
          exact List.mem_map.mpr ⟨b, List.mem_filter.mpr ⟨hb, decide_eq_true hw⟩, hs⟩
        rw [decide_eq_true used]
        (purse 7012 => fail)
        (purse 7016 => fail)
        (purse 7012 => fail)
        exact ⟨_, _, rfl, u2⟩
      · rw [decide_eq_false z]
        (purse 7016 => fail)
        (purse 7016 => fail)
        (purse 7012 => fail)
        exact ⟨_, _, rfl, u2⟩
    · rintro σ' H' ⟨o1, o2, rfl, u⟩
      exact k _ (u1.trans u)
theorem range_mk {ns : List (List V)} {i : Nat} {xs : List V} (h : ns[i]? = some xs) : (List.range (i + 1)).filter (mkAt ns) = (List.range i).filter (mkAt ns) ++ (if mkB xs = true then [i] else []) := by
  rw [List.range_succ, List.filter_append]
  have e : mkAt ns i = mkB xs := by unfold mkAt; rw [h]; rfl
  by_cases z : mkB xs = true <;> simp [e, z]
theorem nts_snoc {l : List Nat} (h : l ≠ []) : ∃ W n, l = W ++ [n] := ⟨l.dropLast, l.getLast h, (List.dropLast_concat_getLast h).symm⟩
theorem ok_ckR (F : FnP K "check_reached" "check_reached" s_check_reached f fd) (T : TW K w mg) (D_makes : Dn P w K mg base 8 (ga K "makes") ["value"] spMakes) : FnOk P w K mg base (L2.CX P w) 10 f fd ["deeds", "links"] spCkR := by
  refine F.ok c_check_reached (fun vs H Q E h => ?_) (fun cdv A outer s H vs Q E hr h => ⟨_, pss_cons (ps_setLc (i := 3) (own := [("node", 2), ("deed", 6)]) (g := gTup K 2 (gCons (gName 2) (gCons (gName 6) (gNil)))) rfl c_check_reached.nd rfl rfl (sw_true rfl rfl rfl rfl) (pi_enumT rfl T.z_enumerate (pa_cons (pv 0) (pa_nil))) (blkOk_by (own := [("node", 2), ("deed", 6)]) (N := ["deeds", "links", "node", "reached", "waiting", "link", "deed"]) (sc := defScope s_check_reached) (by decide +kernel)) (fun _ _ _ _ _ => pg_tup (n := 2) rfl (pgs_cons (pg_name (i := 2) c_check_reached.nd rfl (Or.inl rfl)) (pgs_cons (pg_name (i := 6) c_check_reached.nd rfl (Or.inl rfl)) (pgs_nil)))) (fun _ _ _ _ _ => pts_one (pt_val (pe_dn D_makes (rm hr) rfl T.g_makes passL (pa_cons (pv 6) (pa_nil))))) (fun _ _ _ _ _ => pv 2))
      (pss_cons (ps_set (i := 4) c_check_reached.nd rfl (Or.inl rfl) (pe_callTy cl_listT (by rfl) T.z_list (by decide +kernel) (pa_cons (pv 3) (pa_nil))))
      (pss_cons (ps_while (passes_of rfl) (pt_tr (pv 4))
      (pss_cons (ps_set (i := 2) c_check_reached.nd rfl (Or.inl rfl) (pe_bm0 PySem.F.plainAttrs_list PySem.F.slot_list_pop PySem.F.type_list_pop mt_pop ((pv 4))))
      (pss_one (ps_for (passes_of rfl) rfl (pi_tup (pv 1)) (pg_name (i := 5) c_check_reached.nd rfl (Or.inl rfl))
      (pss_one (ps_if (PW.pt (pw_and (pt_cmpR op_eq (pe_ix ix_tup (pv 5) (pe_int) (fun _ _ => rfl)) (pv 2) (nomark _)) (pw_and1 (pt_cmpR op_notIn_seq (pe_ix ix_tup (pv 5) (pe_int) (fun _ _ => rfl)) (pv 3) (by rfl)))))
      (pss_cons (ps_expr (pe_bm PySem.F.plainAttrs_list PySem.F.slot_list_append PySem.F.type_list_append mt_append (pv 3) (pa_cons (pe_ix ix_tup (pv 5) (pe_int) (fun _ _ => rfl)) (pa_nil))))
      (pss_one (ps_expr (pe_bm PySem.F.plainAttrs_list PySem.F.slot_list_append PySem.F.type_list_append mt_append (pv 4) (pa_cons (pe_ix ix_tup (pv 5) (pe_int) (fun _ _ => rfl)) (pa_nil))))))
      (pss_nil)))))))
      (pss_one (ps_for (passes_of rfl) rfl (pi_range1 rfl T.z_range (pa_cons (pe_callB cl_len (by rfl) T.z_len (by decide +kernel) (pa_cons (pv 0) (pa_nil))) (pa_nil))) (pg_name (i := 2) c_check_reached.nd rfl (Or.inl rfl))
      (pss_one (ps_if (pt_cmpR op_notIn_seq (pv 2) (pv 3) (by rfl))
      (pss_one (ps_never))
      (pss_nil))))))), ?_⟩)
  · obtain ⟨d, t, ns, as, rfl, _⟩ := h
    rfl
  · obtain ⟨d, t, ns, as, rfl, ⟨ds, hd, dl⟩, ⟨vs, ht, tl⟩, ok, k⟩ := h
    have hl := tl.len
    rw [List.length_map] at hl
    have hdl := dl.len
    have a1 := ok.a1
    have n2 := ok.n2
    (purse 7012 => fail)
    refine g_lcEA (K := K) (xs := ds) (fun _ => False) (fun i acc H' => Up H H' ∧ acc = nts ((List.range i).filter (mkAt ns))) (fun _ z => z.elim) (by omega) ⟨Up.rfl', rfl⟩ (fun i acc H' p o hp h => ⟨Up.setF h.1 hp, h.2⟩) (fun i acc H' h => SqT.of (h.1 _ _ hd)) (fun i acc H' x T' hx hG hT R N hR hN => ?_) fun D acc H1 hD hG hL hacc => ?_
    · obtain ⟨uH, rfl⟩ := hG
      have uT := Up.new (o := .tup [.int (i : Nat), x]) hT
      rw [show wipe [some (V.ref d), some (V.ref t), none, none, none, none, none] (List.map (fun x => x.snd) [(Str.ofString "node", 2), (Str.ofString "deed", 6)]) = [some (V.ref d), some (V.ref t), none, none, none, none, none] from rfl]
      refine g_gt2 (K := K) upd_same ⟨rfl, ?_⟩
      generalize upd H' T' (.tup [.int (i : Nat), x]) = H2 at uT ⊢
      obtain ⟨q, xs, rfl, hxs, hq⟩ := (dl.up (uH.trans uT)).get hx
      have er := range_mk hxs
      (purse 7012 => fail)
      refine ⟨q, xs, rfl, hq, ok.dd _ (List.mem_of_getElem? hxs), fun H3 u3 => ?_⟩
      (purse 7012 => fail)
      have u23 := uT.trans u3
      by_cases z : mkB xs = true
      · rw [z]
        (purse 7015 => fail)
        (purse 7012 => fail)
        rw [if_pos z] at er
        exact hR _ H3 u23.toS ⟨uH.trans u23, by rw [er, ints_app]⟩
      · rw [Bool.eq_false_iff.mpr z]
        (purse 7016 => fail)
        rw [if_neg z, List.append_nil] at er
        exact hN H3 u23.toS ⟨uH.trans u23, by rw [er]⟩
    obtain ⟨u1, rfl⟩ := hG
    rw [hdl] at hL
    (purse 7012 => fail)
    refine ⟨D, _, rfl, .inl (SqL.of hL), fun D2 hD2 => ?_⟩
    have hDD : D ≠ D2 := fun z => by rw [z, hD2] at hL; cases hL
    have hL2 : upd H1 D2 (.lst (nts ((List.range ns.length).filter (mkAt ns)))) D = some (.lst (nts ((List.range ns.length).filter (mkAt ns)))) := by rw [upd_ne hDD]; exact hL
    have hW2 : upd H1 D2 (.lst (nts ((List.range ns.length).filter (mkAt ns)))) D2 = some (.lst (nts ((List.range ns.length).filter (mkAt ns)))) := upd_same
    have uS0 : UpS (fun b => b = D ∨ b = D2) H (upd H1 D2 (.lst (nts ((List.range ns.length).filter (mkAt ns))))) := (u1.toS).setS (.inr rfl)
    generalize upd H1 D2 (.lst (nts ((List.range ns.length).filter (mkAt ns)))) = H2 at hL2 hW2 uS0 ⊢
    have hDn : H D2 = none := by
      cases e : H D2 with
      | none => rfl
      | some u => rw [u1 _ _ e] at hD2; cases hD2
    have uS : ∀ {H' : Hp}, UpS (fun b => b = D ∨ b = D2) H H' → Up H H' := fun u b o e => u b o (fun z => by
      rcases z with rfl | rfl
      · rw [hD] at e; cases e
      · rw [hDn] at e; cases e) e
    (purse 7012 => fail)
    refine ⟨fun m σ' H' => ∃ (o1 o2 : Option V) (R W : List Nat), σ' = [some (V.ref d), some (V.ref t), o1, some (V.ref D), some (V.ref D2), o2, none] ∧ UpS (fun b => b = D ∨ b = D2) H H' ∧ H' D = some (.lst (nts R)) ∧ H' D2 = some (.lst (nts W)) ∧ Rk1 ns as R W ∧ m ≤ 100 ∧ m = 2 * (ns.length - R.length) + W.length, ⟨_, none, none, _, _, rfl, uS0, hL2, hW2, ⟨(List.nodup_range).filter _, fun x hx => List.mem_range.mp (List.mem_filter.mp hx).1, fun x hx => hx, fun k hk => List.mem_filter.mpr ⟨List.mem_range.mpr ?_, hk⟩, fun x hx => .inl hx⟩, ?_, rfl⟩, ?_⟩
    · unfold mkAt at hk
      cases e : ns[k]? with
      | none => rw [e] at hk; cases hk
      | some xs => exact (List.getElem?_eq_some_iff.mp e).1
    · have q1 := List.length_filter_le (mkAt ns) (List.range ns.length)
      rw [List.length_range] at q1
      omega
    rintro m σ' H' ⟨o1, o2, R, W, rfl, u, hR', hW', rk, m100, rfl⟩
    (purse 7012 => fail)
    refine g_trL hW' ?_
    by_cases we : W = []
    · subst we
      (purse 7016 => fail)
      (purse 7012 => fail)
      have uu := uS u
      refine g_lent (uu _ _ hd) ?_
      (purse 7012 => fail)
      rw [Int.toNat_natCast]
      refine g_loop (fun i σ' H2 => ∃ (o1 o2 : Option V), σ' = [some (V.ref d), some (V.ref t), o1, some (V.ref D), some (V.ref D2), o2, none] ∧ H2 = H') ⟨_, _, rfl, rfl⟩ ?_ ?_
      · rintro i σ2 H2 hi ⟨p1, p2, rfl, rfl⟩
        (purse 7012 => fail)
        refine g_ninNats hR' ?_
        rw [decide_eq_true (rk.all (ok.rc i (by omega)))]
        (purse 7012 => fail)
        (purse 7016 => fail)
        (purse 7012 => fail)
        exact ⟨_, _, rfl, rfl⟩
      · rintro σ2 H2 ⟨p1, p2, rfl, rfl⟩
        exact k _ uu
    · obtain ⟨W', n, rfl⟩ := nts_snoc we
      rw [show (!(nts (W' ++ [n])).isEmpty) = true by rw [ints_app]; cases nts W' <;> rfl]
      (purse 7015 => fail)
      refine ⟨fun σ' H' => ∃ (o1 o2 : Option V) (R2 W2 : List Nat), σ' = [some (V.ref d), some (V.ref t), o1, some (V.ref D), some (V.ref D2), o2, none] ∧ UpS (fun b => b = D ∨ b = D2) H H' ∧ H' D = some (.lst (nts R2)) ∧ H' D2 = some (.lst (nts W2)) ∧ Rk1 ns as R2 W2 ∧ 2 * (ns.length - R2.length) + W2.length ≤ 2 * (ns.length - R.length) + W'.length, ?_, ?_⟩
      · rintro σ2 H3 ⟨p1, p2, R3, W3, rfl, u3, h1, h2, h3, h4⟩
        rw [List.length_append, List.length_singleton] at m100
        exact ⟨_, by rw [List.length_append, List.length_singleton]; omega, p1, p2, R3, W3, rfl, u3, h1, h2, h3, by omega, rfl⟩
      (purse 7012 => fail)
      rw [ints_app] at hW'
      rw [List.length_append, List.length_singleton] at m100
      refine g_pop hW' ?_
      have u4 : UpS (fun b => b = D ∨ b = D2) H (upd H' D2 (.lst (nts W'))) := u.setS (.inr rfl)
      have hR4 : upd H' D2 (.lst (nts W')) D = some (.lst (nts R)) := by rw [upd_ne hDD]; exact hR'
      have hW4 : upd H' D2 (.lst (nts W')) D2 = some (.lst (nts W')) := upd_same
      generalize upd H' D2 (.lst (nts W')) = H4 at u4 hR4 hW4 ⊢
      (purse 7012 => fail)
      refine ⟨t, rfl, ⟨vs, SqT.of ((uS u4) _ _ ht)⟩, for_tup (K := K) (xs := vs) (fun i σ' H5 => ∃ (o2 : Option V) (R2 W2 : List Nat), σ' = [some (V.ref d), some (V.ref t), some (V.int (n : Nat)), some (V.ref D), some (V.ref D2), o2, none] ∧ UpS (fun b => b = D ∨ b = D2) H H5 ∧ H5 D = some (.lst (nts R2)) ∧ H5 D2 = some (.lst (nts W2)) ∧ Rk2 ns as n i R2 W2 ∧ 2 * (ns.length - R2.length) + W2.length ≤ 2 * (ns.length - R.length) + W'.length) ⟨_, R, W', rfl, u4, hR4, hW4, rk.pop, Nat.le_refl _⟩ ?_ ?_ ?_⟩
      · rintro i σ' H5 _ ⟨p2, R2, W2, rfl, u5, _⟩
        exact SqT.of ((uS u5) _ _ ht)
      · rintro i x σ' H5 hx ⟨p2, R2, W2, rfl, u5, hR5, hW5, rk2, le⟩
        obtain ⟨q, a, rfl, ha, hq⟩ := Tls.getA (tl.up (uS u5)) hx
        have am := List.mem_of_getElem? ha
        have og := (ok.ok a am).hg
        have hRl := range_len _ _ rk2.nd rk2.lt
        (purse 7012 => fail)
        refine g_ixT hq rfl ?_
        (purse 7012 => fail)
        by_cases e : a.s = n
        · rw [decide_eq_true (show ((a.s : Nat) : Int) = (n : Nat) by omega)]
          (purse 7015 => fail)
          (purse 7012 => fail)
          refine g_ixT hq rfl ?_
          (purse 7012 => fail)
          refine g_ninNats hR5 ?_
          (purse 7012 => fail)
          by_cases m : a.g ∈ R2
          · rw [decide_eq_true m]
            (purse 7016 => fail)
            (purse 7012 => fail)
            exact ⟨_, R2, W2, rfl, u5, hR5, hW5, rk2.skip ha fun _ => m, le⟩
          · rw [decide_eq_false m]
            have rk3 := rk2.put ha m og
            have hRl3 := range_len _ _ rk3.nd rk3.lt
            rw [List.length_append, List.length_singleton] at hRl3
            have qD : q ≠ D := fun z => by rw [z, hR5] at hq; cases hq
            have qD2 : q ≠ D2 := fun z => by rw [z, hW5] at hq; cases hq
            (purse 7015 => fail)
            (purse 7012 => fail)
            refine g_bmL hR5 ?_
            (purse 7012 => fail)
            refine g_ixT hq rfl ?_
            (purse 7012 => fail)
            refine g_apE hR5 (by unfold nts; rw [List.length_map]; omega) ?_
            rw [← ints_app]
            have u6 : UpS (fun b => b = D ∨ b = D2) H (upd H5 D (.lst (nts (R2 ++ [a.g])))) := u5.setS (.inl rfl)
            have hR6 : upd H5 D (.lst (nts (R2 ++ [a.g]))) D = some (.lst (nts (R2 ++ [a.g]))) := upd_same
            have hW6 : upd H5 D (.lst (nts (R2 ++ [a.g]))) D2 = some (.lst (nts W2)) := by rw [upd_ne (Ne.symm hDD)]; exact hW5
            have hq6 : upd H5 D (.lst (nts (R2 ++ [a.g]))) q = some (.tup (v5 a)) := by rw [upd_ne qD]; exact hq
            generalize upd H5 D (.lst (nts (R2 ++ [a.g]))) = H6 at u6 hR6 hW6 hq6 ⊢
            (purse 7012 => fail)
            refine g_bmL hW6 ?_
            (purse 7012 => fail)
            refine g_ixT hq6 rfl ?_
            (purse 7012 => fail)
            have hWl : W2.length ≤ 900 := by
              have := ok.n2
              omega
            refine g_apE hW6 (by unfold nts; rw [List.length_map]; omega) ?_
            rw [← ints_app]
            (purse 7012 => fail)
            exact ⟨_, R2 ++ [a.g], W2 ++ [a.g], rfl, u6.setS (.inr rfl), by rw [upd_ne hDD]; exact hR6, upd_same, rk3, by rw [List.length_append, List.length_append, List.length_singleton]; omega⟩
        · rw [decide_eq_false (show ¬ ((a.s : Nat) : Int) = (n : Nat) by omega)]
          (purse 7016 => fail)
          (purse 7016 => fail)
          (purse 7012 => fail)
          exact ⟨_, R2, W2, rfl, u5, hR5, hW5, rk2.skip ha fun z => absurd z e, le⟩
      · rintro σ' H5 ⟨p2, R2, W2, rfl, u5, hR5, hW5, rk2, le⟩
        rw [hl] at rk2
        exact ⟨_, _, R2, W2, rfl, u5, hR5, hW5, rk2.done, le⟩
end

end KW
namespace KW
open PySem PySem.Spec PyProof.Rows L2 AF
open K1
open C8 (pe_gc)
local macro_rules | `(tactic| purse 7003 => fail) => `(tactic| k_dflt (refine Sh.has_ (by assumption) ?_; repeat (first | exact On.here | apply On.next)))
local macro_rules | `(tactic| purse 7004 => fail) => `(tactic| k_dflt (repeat (first | exact On.here | apply On.next)))
local macro_rules | `(tactic| purse 7005 => fail) => `(tactic| (repeat (first | exact Rep.here | apply Rep.next)))
local macro_rules | `(tactic| purse 7006 => fail) => `(tactic| (exact Sh.out (by assumption) (fun b h => by simp [h])))
local macro_rules | `(tactic| purse 7007 => fail) => `(tactic| k_dflt (first | ((with_reducible refine cdivw ?_ ?_) <;> omega) | ((with_reducible show CDiv _ _); constructor <;> omega) | ((with_reducible show CMul _ _); (first | (left; constructor <;> omega) | (right; constructor <;> omega))) | (show (0 : Int) < _; omega)))
local macro_rules | `(tactic| purse 7008 => fail) => `(tactic| first | exact Kd.int _ | exact Kd.bl _ | exact Kd.non | exact Kd.str _ | exact Kd.ins (by (purse 7003 => fail)) | exact Kd.lst (by (purse 7003 => fail)) | exact Kd.tup (by (purse 7003 => fail)))
local macro_rules | `(tactic| purse 7009 => fail) => `(tactic| first | exact DpAll.nil | (apply DpAll.cons; (purse 7010 => fail); (purse 7009 => fail)))
local macro_rules | `(tactic| purse 7010 => fail) => `(tactic| first | exact Dp.int _ | exact Dp.bl _ | exact Dp.non | exact Dp.str _ | (refine dp_int ?_; omega) | (refine dp_bl ?_; simp only [decide_eq_decide]; omega) | (apply dp_lst; (purse 7003 => fail); (purse 7009 => fail)) | (apply dp_tup; (purse 7003 => fail); (purse 7009 => fail)))
local macro_rules | `(tactic| purse 7011 => fail) => `(tactic| first | assumption | omega)
local macro_rules | `(tactic| purse 7001 => fail) => `(tactic| fail "no use")
local macro_rules | `(tactic| purse 7002 => fail) => `(tactic| first
  | (with_reducible refine set_go ?_)
  | (with_reducible refine Step.go ?_)
  | (with_reducible first | refine g_pow10_6 ?_ | refine g_pow10_7 ?_ | refine g_pow10_18 ?_ | refine g_pow10_29 ?_ | refine g_pow10_30 ?_)
  | ((with_reducible refine' g_I ?a0 ?_); (case a0 => (purse 7007 => fail)))
  | ((with_reducible refine' g_ixL ?a0 ?a1 ?_); (case a0 => (purse 7003 => fail)); (case a1 => k_dflt (exact rfl)))
  | ((with_reducible refine' g_kfld ?a0 ?a1 ?a2 ?a3 ?_); (case a0 => (purse 7003 => fail)); (case a1 => k_dflt (assumption)); (case a2 => k_dflt (assumption)); (case a3 => k_dflt (exact rfl)))
  | ((with_reducible refine' g_kprop ?a0 ?_); (case a0 => (purse 7003 => fail)))
  | ((with_reducible refine' g_kmeth ?a0 ?a1 ?_); (case a0 => (purse 7003 => fail)); (case a1 => k_dflt (exact rfl)))
  | ((with_reducible refine' g_own ?a0 ?a1 ?a2 ?_); (case a0 => (purse 7003 => fail)); (case a1 => (purse 7008 => fail)); (case a2 => k_dflt (assumption)))
  | ((with_reducible refine' g_cmp ?a0 ?a1 ?a2 ?_); (case a0 => (purse 7003 => fail)); (case a1 => (purse 7008 => fail)); (case a2 => k_dflt (assumption)))
  | ((with_reducible refine' g_neq ?a0 ?a1 ?a2 ?_); (case a0 => (purse 7003 => fail)); (case a1 => (purse 7008 => fail)); (case a2 => k_dflt (assumption)))
  | ((with_reducible refine' g_right ?a0 ?_); (case a0 => (purse 7003 => fail)))
  | ((with_reducible refine' use_draw ?a0 ?a1 ?a2 ?a3 ?a4 ?_); (case a0 => assumption); (case a1 => intro _ _; (purse 7005 => fail)); (case a2 => assumption); (case a3 => (purse 7011 => fail)); (case a4 => (purse 7011 => fail)); intro _ _ _ _ _ _ _ _)
  | ((with_reducible refine' use_giveI ?a0 ?a1 ?a2 ?_); (case a0 => assumption); (case a1 => intro _ _; (purse 7005 => fail)); (case a2 => assumption); intro _ _ _ _ _ _ _ _)
  | ((with_reducible refine' use_source ?a0 ?a1 ?_); (case a0 => assumption); (case a1 => k_dflt (assumption)); intro _ _ _ _ _ _)
  | (with_reducible refine g_absN ?_; intro _ _)
  | (with_reducible refine g_maxN ?_; intro _ _ _ _)
  | (with_reducible refine g_minN ?_; intro _ _ _ _)
  | ((with_reducible refine' g_kR1 ?a0 ?a1 ?_); (case a0 => omega); (case a1 => omega))
  | ((with_reducible refine' g_neD ?a0 ?a1 ?a2 ?_); (case a0 => (purse 7010 => fail)); (case a1 => (purse 7010 => fail)); (case a2 => k_dflt (rfl)))
  | ((with_reducible refine' g_eqD ?a0 ?a1 ?a2 ?_); (case a0 => (purse 7010 => fail)); (case a1 => (purse 7010 => fail)); (case a2 => k_dflt (rfl)))
  | ((with_reducible refine' g_klst ?a0 ?a1 ?_); (case a0 => assumption); (case a1 => k_dflt (exact rfl)); intro _ _ _ _)
  | ((with_reducible refine' g_ktup ?a0 ?a1 ?_); (case a0 => assumption); (case a1 => k_dflt (exact rfl)); intro _ _ _ _)
  | ((with_reducible refine' g_setL ?a0 ?a1 ?a2 ?_); (case a0 => assumption); (case a1 => (purse 7005 => fail)); (case a2 => k_dflt (exact rfl)); intro _ _)
  | ((with_reducible refine' g_unl3 ?a0 ?_); (case a0 => (purse 7003 => fail)))
  | (purse 7001 => fail))
local macro_rules | `(tactic| purse 7012 => fail) => `(tactic| ((try (with_reducible refine start_go ?_)); repeat (purse 7002 => fail)))
local macro_rules | `(tactic| purse 7013 => fail) => `(tactic| first | rfl | (refine decide_eq_true ?_; omega) | (simp only [Bool.not_eq_true', Bool.not_eq_false', decide_eq_false_iff_not, decide_eq_true_eq, Bool.not_not, decide_eq_decide]; done) | (simp only [Bool.not_eq_true', Bool.not_eq_false', decide_eq_false_iff_not, decide_eq_true_eq, Bool.not_not, decide_eq_decide]; omega))
local macro_rules | `(tactic| purse 7014 => fail) => `(tactic| first | rfl | (refine decide_eq_false ?_; omega) | (simp only [Bool.not_eq_true', Bool.not_eq_false', decide_eq_false_iff_not, decide_eq_true_eq, Bool.not_not, decide_eq_decide]; done) | (simp only [Bool.not_eq_true', Bool.not_eq_false', decide_eq_false_iff_not, decide_eq_true_eq, Bool.not_not, decide_eq_decide]; omega))
local macro_rules | `(tactic| purse 7015 => fail) => `(tactic| ((refine g_yes ?h ?_); (case h => (purse 7013 => fail))))
local macro_rules | `(tactic| purse 7016 => fail) => `(tactic| ((refine g_no ?h ?_); (case h => (purse 7014 => fail))))
local macro_rules | `(tactic| purse 7017 => fail) => `(tactic| first | (purse 7015 => fail) | (purse 7016 => fail))
local macro_rules | `(tactic| purse 7018 => fail) => `(tactic| repeat ((purse 7012 => fail); (purse 7017 => fail)))
local macro_rules | `(tactic| purse 7019 => fail) => `(tactic| repeat (first | exact intIn_nil | refine intIn_cons (by omega) (by omega) ?_))
local macro_rules | `(tactic| purse 7020 => fail) => `(tactic| (simp only [List.length_cons, List.length_nil]; omega))
local macro_rules | `(tactic| purse 7021 => fail) => `(tactic| (refine g_two (fun c => ?_) (fun c => ?_) <;> first | (have c := of_decide_eq_true c) | (have c := of_decide_eq_false c) | skip))
local macro_rules | `(tactic| purse 7022 => fail) => `(tactic| ((purse 7018 => fail); (purse 7012 => fail); try ((purse 7021 => fail) <;> (purse 7022 => fail))))

local macro_rules | `(tactic| purse 7001 => fail) => `(tactic| first
  | (with_reducible refine use_wholeI ?_)
  | (with_reducible refine g_pow10_9 ?_)
  | ((with_reducible refine' use_time ?a0 ?a1 ?_); (case a0 => (purse 7011 => fail)); (case a1 => (purse 7011 => fail))))

/-! ways: the class -/
def wf (t1 t2 : Addr) : List (Str × V) := [("deeds", .ref t1), ("links", .ref t2)]
/-- a way -/
def WA (C : Addr) (H : Hp) (x : Addr) (ns : List (List V)) (as : List Ar) : Prop := ∃ dx t1 t2, H x = some (.ins C dx (wf t1 t2)) ∧ TpN H t1 ns ∧ TpA H t2 as
theorem WA.up {C : Addr} {H H' : Hp} {x : Addr} {ns : List (List V)} {as : List Ar} (u : Up H H') (h : WA C H x ns as) : WA C H' x ns as := by
  obtain ⟨dx, t1, t2, a, b, c⟩ := h
  exact ⟨dx, t1, t2, u _ _ a, b.up u, c.up u⟩
section
variable {H H' : Hp} {S : Addr → Prop} {r n x : Addr} {as : List Ar} {ns : List (List V)} {C : Addr}
def NoSq (S : Addr → Prop) (H : Hp) : Prop := ∀ b xs, S b → H b ≠ some (.tup xs)
theorem TpN.upS (u : UpS S H H') (h : NoSq S H) (t : TpN H n ns) : TpN H' n ns := by
  obtain ⟨vs, a, b⟩ := t
  exact ⟨vs, u _ _ (fun z => h _ _ z a) a, b.upS u h⟩
theorem TpA.upS (u : UpS S H H') (h : NoSq S H) (t : TpA H n as) : TpA H' n as := by
  obtain ⟨vs, a, b⟩ := t
  exact ⟨vs, u _ _ (fun z => h _ _ z a) a, b.upS u h⟩
theorem ArAt.upS {t : Addr} {a : Ar} (u : UpS S H H') (h : NoSq S H) (z : ArAt H t a) : ArAt H' t a := z.imp (fun q => u _ _ (fun z => h _ _ z q) q) fun q => ⟨q.1, u _ _ (fun z => h _ _ z q.2) q.2⟩
theorem Ats.upS (u : UpS S H H') (h : NoSq S H) : ∀ {vs : List V} {as : List Ar}, Ats H vs as → Ats H' vs as
  | _, _, .nil => .nil
  | _, _, .cons a r => .cons (a.upS u h) (r.upS u h)
theorem RwAt.upS (u : UpS S H H') (h : NoSq S H) (hr : ¬ S r) (t : RwAt H r as) : RwAt H' r as := by
  obtain ⟨vs, a, b⟩ := t
  exact ⟨vs, a.imp (u _ _ hr) (u _ _ hr), b.upS u h⟩
theorem NdAt.upS (u : UpS S H H') (h : NoSq S H) (hr : ¬ S n) (t : NdAt H n ns) : NdAt H' n ns := by
  obtain ⟨⟨vs, a, b⟩, c⟩ := t
  exact ⟨⟨vs, a.imp (u _ _ hr) (u _ _ hr), b.upS u h⟩, c⟩
theorem WA.upS (u : UpS S H H') (h : NoSq S H) (hx : ¬ S x) (t : WA C H x ns as) : WA C H' x ns as := by
  obtain ⟨dx, t1, t2, a, b, c⟩ := t
  exact ⟨dx, t1, t2, u _ _ hx a, b.upS u h, c.upS u h⟩
end
def fnd (as : List Ar) (i j : Int) : Option Ar := as.find? fun a => decide (((a.s : Nat) : Int) = i) && decide (((a.g : Nat) : Int) = j)
theorem fnd_snoc {as : List Ar} {k : Nat} {a : Ar} {i j : Int} (h : as[k]? = some a) (e : fnd (as.take k) i j = none) : fnd (as.take (k + 1)) i j = if ((a.s : Nat) : Int) = i ∧ ((a.g : Nat) : Int) = j then some a else none := by
  have e1 : as.take (k + 1) = as.take k ++ [a] := by rw [List.take_add_one, h]; rfl
  unfold fnd at e ⊢
  rw [e1, List.find?_append, e]
  by_cases z : ((a.s : Nat) : Int) = i ∧ ((a.g : Nat) : Int) = j
  · simp [z]
  · rw [if_neg z]
    simpa using fun y => fun q => z ⟨y, q⟩
theorem fnd_some {as : List Ar} {k : Nat} {a : Ar} {i j : Int} (e : fnd (as.take k) i j = some a) : fnd as i j = some a := by
  have h : as = as.take k ++ as.drop k := (List.take_append_drop k as).symm
  unfold fnd at e ⊢
  rw [h, List.find?_append, e]; rfl
def spWay (C : Addr) : Sp := fun vs H Q _ => ∃ (p dx n r : Addr) (ns : List (List V)) (as : List Ar), vs = [.ref p, .ref n, .ref r] ∧ H p = some (.ins C dx []) ∧ NdAt H n ns ∧ RwAt H r as ∧ WOk ns as ∧ ∀ H' t1 t2, UpX p H H' → H' p = some (.ins C dx (wf t1 t2)) → TpN H' t1 ns → TpA H' t2 as → Q .non H'
def spNodes (C : Addr) : Sp := fun vs H Q _ => ∃ (x : Addr) (ns : List (List V)) (as : List Ar), vs = [.ref x] ∧ WA C H x ns as ∧ ∀ r H' ws, H r = none → Up H H' → H' r = some (.lst ws) → Tls H' ws ns → Q (.ref r) H'
def spArrows (C : Addr) : Sp := fun vs H Q _ => ∃ (x : Addr) (ns : List (List V)) (as : List Ar), vs = [.ref x] ∧ WA C H x ns as ∧ ∀ r H' ws, H r = none → Up H H' → H' r = some (.lst ws) → Tls H' ws (as.map v5) → Q (.ref r) H'
def spGet (C : Addr) : Sp := fun vs H Q _ => ∃ (x : Addr) (v1 v2 : V) (d1 d2 : PyData) (ns : List (List V)) (as : List Ar), vs = [.ref x, v1, v2] ∧ WA C H x ns as ∧ Pv H v1 d1 ∧ Pv H v2 d2 ∧ (((wholeB d1 = false ∨ wholeB d2 = false) ∧ Q .non H) ∨
  ∃ i j : Int, v1 = .int i ∧ v2 = .int j ∧ (fnd as i j = none → Q .non H) ∧ ∀ a t, fnd as i j = some a → H t = some (.tup (v5 a)) → Q (.ref t) H)
def spItem (C : Addr) : Sp := fun vs H Q _ => ∃ (x : Addr) (k : Nat) (ns : List (List V)) (as : List Ar), vs = [.ref x, .int (k : Nat)] ∧ WA C H x ns as ∧ k < ns.length ∧ ∀ t xs, ns[k]? = some xs → H t = some (.tup xs) → Q (.ref t) H
def spLen (C : Addr) : Sp := fun vs H Q _ => ∃ (x : Addr) (ns : List (List V)) (as : List Ar), vs = [.ref x] ∧ WA C H x ns as ∧ Q (.int (ns.length : Nat)) H
def spEq (C : Addr) : Sp := fun vs H Q _ => ∃ (x y : Addr) (ns : List (List V)) (as : List Ar), vs = [.ref x, .ref y] ∧ WA C H x ns as ∧ Flats ns ∧ Flats (as.map v5) ∧
  ((∃ (ns' : List (List V)) (as' : List Ar), WA C H y ns' as' ∧ Flats ns' ∧ Flats (as'.map v5) ∧ Q (.bl (decide (ns = ns') && decide (as.map v5 = as'.map v5))) H) ∨ ((∃ xs, H y = some (.lst xs)) ∧ Q (.bl false) H))
section
open He
variable {P : Program} {w : World} {K : PySem.W.Frag} {mg : Str → Option Value} {base : Heap} {f : Addr} {fd : FuncData}
theorem ok_way (F : FnP K "__init__" "Way.__init__" s_Way___init__ f fd) (T : TW K w mg) (D_check_nodes : Dn P w K mg base 8 (ga K "check_nodes") ["nodes"] spCkN) (D_check_arrows : Dn P w K mg base 12 (ga K "check_arrows") ["arrows", "nodes"] spCkA) (D_with_word : Dn P w K mg base 2 (ga K "with_word") ["arrow"] spWith) (D_check_anew : Dn P w K mg base 2 (ga K "check_anew") ["links"] spCkW) (D_check_reached : Dn P w K mg base 10 (ga K "check_reached") ["deeds", "links"] spCkR) :
    FnOk P w K mg base (L2.CX P w) 14 f fd ["self", "nodes", "arrows"] (spWay (ga K "Way")) := by
  refine F.ok c_Way___init__ (fun vs H Q E h => ?_) (fun cdv A outer s H vs Q E hr h => ⟨_, pss_cons (ps_expr (pe_dn D_check_nodes (rm hr) rfl T.g_check_nodes (passes_call (takes_of rfl rfl rfl rfl) fun _ _ _ _ h => h) (pa_cons (pv 1) (pa_nil))))
      (pss_cons (ps_expr (pe_dn D_check_arrows (rm hr) rfl T.g_check_arrows (passes_call (takes_of rfl rfl rfl rfl) fun _ _ _ _ h => h) (pa_cons (pv 2) (pa_cons (pv 1) (pa_nil)))))
      (pss_cons (ps_fld (pv 0) (pe_callTy cl_tupE (by rfl) T.z_tuple (by decide +kernel) (pa_cons (pv 1) (pa_nil))) rfl)
      (pss_cons (ps_fld (pv 0) (pe_callTy cl_tupE (by rfl) T.z_tuple (by decide +kernel) (pa_cons (pe_lc (own := [("arrow", 3)]) (g := gName 3) (tt := tYes) rfl c_Way___init__.nd (pi_or (pi_list (pv 2)) (pi_tup (pv 2))) (blkOk_by (own := [("arrow", 3)]) (N := ["self", "nodes", "arrows", "arrow"]) (sc := defScope s_Way___init__) (by decide +kernel)) (fun _ _ _ _ _ => pg_name (i := 3) c_Way___init__.nd rfl (Or.inl rfl)) (fun _ _ _ _ _ => pts_nil) (fun _ _ _ _ _ => pe_dn D_with_word (rm hr) rfl T.g_with_word passL (pa_cons (pv 3) (pa_nil)))) (pa_nil))) rfl)
      (pss_cons (ps_expr (pe_dn D_check_anew (rm hr) rfl T.g_check_anew (passes_call (takes_of rfl rfl rfl rfl) fun _ _ _ _ h => h) (pa_cons (pe_fld (pv 0) rfl) (pa_nil))))
      (pss_one (ps_expr (pe_dn D_check_reached (rm hr) rfl T.g_check_reached (passes_call (takes_of rfl rfl rfl rfl) fun _ _ _ _ h => h) (pa_cons (pe_fld (pv 0) rfl) (pa_cons (pe_fld (pv 0) rfl) (pa_nil)))))))))), ?_⟩)
  · obtain ⟨p, dx, n, r, ns, as, rfl, _⟩ := h
    rfl
  · obtain ⟨p, dx, n, r, ns, as, rfl, hp, hn, hrw, ok, k⟩ := h
    (purse 7012 => fail)
    refine ⟨n, ns, rfl, hn, ok.n1, ok.n2, fun H1 u1 => ?_⟩
    (purse 7012 => fail)
    refine ⟨r, n, ns, as, rfl, hrw.up u1, hn.up u1, ok, fun H2 u2 => ?_⟩
    have u12 := u1.trans u2
    (purse 7012 => fail)
    obtain ⟨vs, hq, tl⟩ := (hn.up u12).ex
    refine g_tupE hq fun t1 H3 u3 ht1 => ?_
    have u13 := u12.trans u3
    (purse 7012 => fail)
    have hp3 := u13 _ _ hp
    refine ⟨p, ga K "Way", dx, [], rfl, hp3, T.cl, T.nD, by decide, ?_⟩
    have uS : UpS (fun b => b = p) H3 (upd H3 p (.ins (ga K "Way") dx (putF "deeds" (.ref t1) []))) := (UpS.rfl' (S := fun b => b = p) (H := H3)).setS rfl
    have nS : NoSq (fun b => b = p) H3 := fun b xs z q => by rw [z, hp3] at q; cases q
    have hp4 : upd H3 p (.ins (ga K "Way") dx (putF "deeds" (.ref t1) [])) p = some (.ins (ga K "Way") dx [("deeds", .ref t1)]) := upd_same
    have hT1 : TpN H3 t1 ns := ⟨vs, ht1, tl.up u3⟩
    have hrp : ¬ r = p := fun z => by
      obtain ⟨ws, a, _⟩ := hrw.up u13
      rw [z] at a
      rcases a with a | a <;> (rw [hp3] at a; cases a)
    have hT4 := hT1.upS uS nS
    have hr4 := (hrw.up u13).upS uS nS hrp
    generalize upd H3 p (.ins (ga K "Way") dx (putF "deeds" (.ref t1) [])) = H4 at uS hp4 hT4 hr4 ⊢
    (purse 7012 => fail)
    obtain ⟨ws, hw, ats⟩ := hr4
    have hl := ats.len
    have a1 := ok.a1
    rcases hw with hw | hw
    · refine lc_inl ?_
      (purse 7012 => fail)
      refine g_lcLD (K := K) (xs := ws) (fun _ => False) (fun D i acc H' => Up H4 H' ∧ Tls H' acc ((as.take i).map v5)) (fun _ z => z.elim) (by omega) (SqL.of hw) (fun D hD => ⟨Up.new hD, .nil⟩) (fun D i acc H' ys zs hD hd h => ⟨Up.setF h.1 hD, h.2.lstAt hd⟩) (fun D i acc H' h => SqL.of (h.1 _ _ hw)) (fun D i acc H' x hD hd hx hG R N hR hN => ⟨rfl, ?_⟩) fun D acc H5 hD hG hL hacc => ?_
      · obtain ⟨uH, tls⟩ := hG
        obtain ⟨t, a, rfl, ha, hta⟩ := (ats.up uH).get hx
        refine g_tYes ?_
        rw [show (List.set (wipe [some (V.ref p), some (V.ref n), some (V.ref r), none] (List.map (fun x => x.snd) [(Str.ofString "arrow", 3)])) 3 (some (V.ref t))) = [some (V.ref p), some (V.ref n), some (V.ref r), some (V.ref t)] from rfl]
        (purse 7012 => fail)
        refine ⟨t, a, rfl, hta, fun r2 H6 u6 hr6 => ?_⟩
        refine hR _ H6 u6.toS ⟨uH.trans u6, ?_⟩
        have e : (as.take (i + 1)).map v5 = (as.take i).map v5 ++ [v5 a] := by rw [List.take_add_one, ha, List.map_append]; rfl
        rw [e]
        exact (tls.up u6).append (.one hr6)
      · obtain ⟨u5, tls⟩ := hG
        rw [hl, List.take_length] at tls
        (purse 7012 => fail)
        refine g_tupE (.inl hL) fun t2 H6 u6 ht2 => ?_
        have u46 := u5.trans u6
        have hp6 := u46 _ _ hp4
        have hT6 := hT4.up u46
        have hA6 : TpA H6 t2 as := ⟨acc, ht2, tls.up u6⟩
        (purse 7012 => fail)
        refine ⟨p, ga K "Way", dx, [("deeds", .ref t1)], rfl, hp6, T.cl, T.nL, (by show 1 < 1000; decide), ?_⟩
        have uS7 : UpS (fun b => b = p) H6 (upd H6 p (.ins (ga K "Way") dx (putF "links" (.ref t2) [("deeds", .ref t1)]))) := (UpS.rfl' (S := fun b => b = p) (H := H6)).setS rfl
        have nS6 : NoSq (fun b => b = p) H6 := fun b xs z q => by rw [z, hp6] at q; cases q
        have hp7 : upd H6 p (.ins (ga K "Way") dx (putF "links" (.ref t2) [("deeds", .ref t1)])) p = some (.ins (ga K "Way") dx (wf t1 t2)) := upd_same
        have hT7 := hT6.upS uS7 nS6
        have hA7 := hA6.upS uS7 nS6
        generalize upd H6 p (.ins (ga K "Way") dx (putF "links" (.ref t2) [("deeds", .ref t1)])) = H7 at uS7 hp7 hT7 hA7 ⊢
        (purse 7012 => fail)
        refine g_kfld (K := K) hp7 T.cl T.nL rfl ?_
        (purse 7012 => fail)
        refine ⟨t2, ns, as, rfl, hA7, ok, fun H8 u8 => ?_⟩
        (purse 7012 => fail)
        refine g_kfld (K := K) (u8 _ _ hp7) T.cl T.nD rfl ?_
        (purse 7012 => fail)
        refine g_kfld (K := K) (u8 _ _ hp7) T.cl T.nL rfl ?_
        (purse 7012 => fail)
        refine ⟨t1, t2, ns, as, rfl, hT7.up u8, hA7.up u8, ok, fun H9 u9 => ?_⟩
        have u79 := u8.trans u9
        (purse 7012 => fail)
        exact k H9 t1 t2 (((u13.toX.trans (fun b o n e => uS b o n e)).trans u46.toX).trans (UpX.trans (fun b o n e => uS7 b o n e) u79.toX)) (u79 _ _ hp7) (hT7.up u79) (hA7.up u79)
    · refine lc_inr ?_
      (purse 7012 => fail)
      refine g_lcTD (K := K) (xs := ws) (fun _ => False) (fun D i acc H' => Up H4 H' ∧ Tls H' acc ((as.take i).map v5)) (fun _ z => z.elim) (by omega) (SqT.of hw) (fun D hD => ⟨Up.new hD, .nil⟩) (fun D i acc H' ys zs hD hd h => ⟨Up.setF h.1 hD, h.2.lstAt hd⟩) (fun D i acc H' h => SqT.of (h.1 _ _ hw)) (fun D i acc H' x hD hd hx hG R N hR hN => ⟨rfl, ?_⟩) fun D acc H5 hD hG hL hacc => ?_
      · obtain ⟨uH, tls⟩ := hG
        obtain ⟨t, a, rfl, ha, hta⟩ := (ats.up uH).get hx
        refine g_tYes ?_
        rw [show (List.set (wipe [some (V.ref p), some (V.ref n), some (V.ref r), none] (List.map (fun x => x.snd) [(Str.ofString "arrow", 3)])) 3 (some (V.ref t))) = [some (V.ref p), some (V.ref n), some (V.ref r), some (V.ref t)] from rfl]
        (purse 7012 => fail)
        refine ⟨t, a, rfl, hta, fun r2 H6 u6 hr6 => ?_⟩
        refine hR _ H6 u6.toS ⟨uH.trans u6, ?_⟩
        have e : (as.take (i + 1)).map v5 = (as.take i).map v5 ++ [v5 a] := by rw [List.take_add_one, ha, List.map_append]; rfl
        rw [e]
        exact (tls.up u6).append (.one hr6)
      · obtain ⟨u5, tls⟩ := hG
        rw [hl, List.take_length] at tls
        (purse 7012 => fail)
        refine g_tupE (.inl hL) fun t2 H6 u6 ht2 => ?_
        have u46 := u5.trans u6
        have hp6 := u46 _ _ hp4
        have hT6 := hT4.up u46
        have hA6 : TpA H6 t2 as := ⟨acc, ht2, tls.up u6⟩
        (purse 7012 => fail)
        refine ⟨p, ga K "Way", dx, [("deeds", .ref t1)], rfl, hp6, T.cl, T.nL, (by show 1 < 1000; decide), ?_⟩
        have uS7 : UpS (fun b => b = p) H6 (upd H6 p (.ins (ga K "Way") dx (putF "links" (.ref t2) [("deeds", .ref t1)]))) := (UpS.rfl' (S := fun b => b = p) (H := H6)).setS rfl
        have nS6 : NoSq (fun b => b = p) H6 := fun b xs z q => by rw [z, hp6] at q; cases q
        have hp7 : upd H6 p (.ins (ga K "Way") dx (putF "links" (.ref t2) [("deeds", .ref t1)])) p = some (.ins (ga K "Way") dx (wf t1 t2)) := upd_same
        have hT7 := hT6.upS uS7 nS6
        have hA7 := hA6.upS uS7 nS6
        generalize upd H6 p (.ins (ga K "Way") dx (putF "links" (.ref t2) [("deeds", .ref t1)])) = H7 at uS7 hp7 hT7 hA7 ⊢
        (purse 7012 => fail)
        refine g_kfld (K := K) hp7 T.cl T.nL rfl ?_
        (purse 7012 => fail)
        refine ⟨t2, ns, as, rfl, hA7, ok, fun H8 u8 => ?_⟩
        (purse 7012 => fail)
        refine g_kfld (K := K) (u8 _ _ hp7) T.cl T.nD rfl ?_
        (purse 7012 => fail)
        refine g_kfld (K := K) (u8 _ _ hp7) T.cl T.nL rfl ?_
        (purse 7012 => fail)
        refine ⟨t1, t2, ns, as, rfl, hT7.up u8, hA7.up u8, ok, fun H9 u9 => ?_⟩
        have u79 := u8.trans u9
        (purse 7012 => fail)
        exact k H9 t1 t2 (((u13.toX.trans (fun b o n e => uS b o n e)).trans u46.toX).trans (UpX.trans (fun b o n e => uS7 b o n e) u79.toX)) (u79 _ _ hp7) (hT7.up u79) (hA7.up u79)
theorem ok_nodes (F : FnP K "nodes" "Way.nodes" s_Way_nodes f fd) (T : TW K w mg) : FnOk P w K mg base (L2.CX P w) 2 f fd ["self"] (spNodes (ga K "Way")) := by
  refine F.ok c_Way_nodes (fun vs H Q E h => ?_) (fun cdv A outer s H vs Q E hr h => ⟨_, pss_one (ps_ret (pe_callTy cl_listT (by rfl) T.z_list (by decide +kernel) (pa_cons (pe_fld (pv 0) rfl) (pa_nil)))), ?_⟩)
  · obtain ⟨x, ns, as, rfl, _⟩ := h
    rfl
  · obtain ⟨x, ns, as, rfl, ⟨dx, t1, t2, hx, ⟨vs, h1, tl⟩, hA⟩, k⟩ := h
    (purse 7012 => fail)
    refine g_kfld (K := K) hx T.cl T.nD rfl ?_
    (purse 7012 => fail)
    exact ⟨t1, vs, rfl, .inr (SqT.of h1), fun l hl => k l _ vs hl (Up.new hl) upd_same (tl.up (Up.new hl))⟩
theorem ok_arrows (F : FnP K "arrows" "Way.arrows" s_Way_arrows f fd) (T : TW K w mg) : FnOk P w K mg base (L2.CX P w) 2 f fd ["self"] (spArrows (ga K "Way")) := by
  refine F.ok c_Way_arrows (fun vs H Q E h => ?_) (fun cdv A outer s H vs Q E hr h => ⟨_, pss_one (ps_ret (pe_callTy cl_listT (by rfl) T.z_list (by decide +kernel) (pa_cons (pe_fld (pv 0) rfl) (pa_nil)))), ?_⟩)
  · obtain ⟨x, ns, as, rfl, _⟩ := h
    rfl
  · obtain ⟨x, ns, as, rfl, ⟨dx, t1, t2, hx, hN, ⟨vs, h1, tl⟩⟩, k⟩ := h
    (purse 7012 => fail)
    refine g_kfld (K := K) hx T.cl T.nL rfl ?_
    (purse 7012 => fail)
    exact ⟨t2, vs, rfl, .inr (SqT.of h1), fun l hl => k l _ vs hl (Up.new hl) upd_same (tl.up (Up.new hl))⟩
theorem ok_item (F : FnP K "__getitem__" "Way.__getitem__" s_Way___getitem__ f fd) (T : TW K w mg) (D_is_place : Dn P w K mg base 4 (ga K "is_place") ["value", "things"] spPlace) : FnOk P w K mg base (L2.CX P w) 6 f fd ["self", "at"] (spItem (ga K "Way")) := by
  refine F.ok c_Way___getitem__ (fun vs H Q E h => ?_) (fun cdv A outer s H vs Q E hr h => ⟨_, pss_cons (ps_if (pt_not (pt_val (pe_dn D_is_place (rm hr) rfl T.g_is_place (passes_call (takes_of rfl rfl rfl rfl) fun _ _ _ _ h => h) (pa_cons (pv 1) (pa_cons (pe_fld (pv 0) rfl) (pa_nil))))))
      (pss_one (ps_never))
      (pss_nil))
      (pss_one (ps_ret (pe_ix ix_tup (pe_fld (pv 0) rfl) (pv 1) (fun _ _ => rfl)))), ?_⟩)
  · obtain ⟨x, i, ns, as, rfl, _⟩ := h
    rfl
  · obtain ⟨x, i, ns, as, rfl, ⟨dx, t1, t2, hx, ⟨vs, h1, tl⟩, hA⟩, hi, k⟩ := h
    have hl := tl.len
    (purse 7012 => fail)
    refine g_kfld (K := K) hx T.cl T.nD rfl ?_
    (purse 7012 => fail)
    refine ⟨i, t1, vs, rfl, .inr h1, by omega, ?_⟩
    (purse 7012 => fail)
    (purse 7016 => fail)
    (purse 7012 => fail)
    refine g_kfld (K := K) hx T.cl T.nD rfl ?_
    (purse 7012 => fail)
    obtain ⟨t, et, ht⟩ := tl.at_ (List.getElem?_eq_getElem hi)
    refine g_ixT h1 (ai_nat et) ?_
    exact k t _ (List.getElem?_eq_getElem hi) ht
theorem ok_len (F : FnP K "__len__" "Way.__len__" s_Way___len__ f fd) (T : TW K w mg) : FnOk P w K mg base (L2.CX P w) 2 f fd ["self"] (spLen (ga K "Way")) := by
  refine F.ok c_Way___len__ (fun vs H Q E h => ?_) (fun cdv A outer s H vs Q E hr h => ⟨_, pss_one (ps_ret (pe_callB cl_len (by rfl) T.z_len (by decide +kernel) (pa_cons (pe_fld (pv 0) rfl) (pa_nil)))), ?_⟩)
  · obtain ⟨x, ns, as, rfl, _⟩ := h
    rfl
  · obtain ⟨x, ns, as, rfl, ⟨dx, t1, t2, hx, ⟨vs, h1, tl⟩, hA⟩, k⟩ := h
    (purse 7012 => fail)
    refine g_kfld (K := K) hx T.cl T.nD rfl ?_
    (purse 7012 => fail)
    refine g_lent h1 ?_
    rw [tl.len]
    exact k
theorem ok_get (F : FnP K "arrow" "Way.arrow" s_Way_arrow f fd) (T : TW K w mg) (D_is_whole : Dn P w K mg base 2 (ga K "is_whole") ["value"] spWhole) : FnOk P w K mg base (L2.CX P w) 4 f fd ["self", "start", "goal"] (spGet (ga K "Way")) := by
  refine F.ok c_Way_arrow (fun vs H Q E h => ?_) (fun cdv A outer s H vs Q E hr h => ⟨_, pss_cons (ps_if (PW.pt (pw_or (pt_not (pt_val (pe_dn D_is_whole (rm hr) rfl T.g_is_whole (passes_call (takes_of rfl rfl rfl rfl) fun _ _ _ _ h => h) (pa_cons (pv 1) (pa_nil))))) (pw_or1 (pt_not (pt_val (pe_dn D_is_whole (rm hr) rfl T.g_is_whole (passes_call (takes_of rfl rfl rfl rfl) fun _ _ _ _ h => h) (pa_cons (pv 2) (pa_nil))))))))
      (pss_one (ps_ret (pe_non)))
      (pss_nil))
      (pss_cons (ps_for (passes_of rfl) rfl (pi_tup (pe_fld (pv 0) rfl)) (pg_name (i := 3) c_Way_arrow.nd rfl (Or.inl rfl))
      (pss_one (ps_if (PW.pt (pw_and (pt_cmpR op_eq (pe_ix ix_tup (pv 3) (pe_int) (fun _ _ => rfl)) (pv 1) (nomark _)) (pw_and1 (pt_cmpR op_eq (pe_ix ix_tup (pv 3) (pe_int) (fun _ _ => rfl)) (pv 2) (nomark _)))))
      (pss_one (ps_ret (pv 3)))
      (pss_nil))))
      (pss_one (ps_ret (pe_non)))), ?_⟩)
  · obtain ⟨x, v1, v2, d1, d2, ns, as, rfl, _⟩ := h
    rfl
  · obtain ⟨x, v1, v2, d1, d2, ns, as, rfl, ⟨dx, t1, t2, hx, hN, ⟨vs, h1, tl⟩⟩, p1, p2, k⟩ := h
    rcases k with ⟨no, k⟩ | ⟨i, j, rfl, rfl, k0, k1⟩
    · (purse 7012 => fail)
      refine use_whole p1 ?_
      (purse 7012 => fail)
      cases e1 : wholeB d1 with
      | false =>
        (purse 7015 => fail)
        (purse 7015 => fail)
        (purse 7012 => fail)
        exact k
      | true =>
        (purse 7016 => fail)
        (purse 7012 => fail)
        refine use_whole p2 ?_
        (purse 7012 => fail)
        have e2 : wholeB d2 = false := no.elim (fun z => by rw [e1] at z; cases z) id
        rw [e2]
        (purse 7015 => fail)
        (purse 7012 => fail)
        exact k
    · (purse 7012 => fail)
      (purse 7016 => fail)
      (purse 7012 => fail)
      (purse 7016 => fail)
      (purse 7012 => fail)
      refine g_kfld (K := K) hx T.cl T.nL rfl ?_
      refine ⟨t2, rfl, ⟨vs, SqT.of h1⟩, for_tup (K := K) (xs := vs) (fun q σ' H' => ∃ (o : Option V), σ' = [some (V.ref x), some (V.int i), some (V.int j), o] ∧ H' = H ∧ fnd (as.take q) i j = none) ⟨none, rfl, rfl, rfl⟩ ?_ ?_ ?_⟩
      · rintro q σ' H' _ ⟨o, rfl, rfl, _⟩
        exact SqT.of h1
      · rintro q y σ' H' hy ⟨o, rfl, rfl, hf⟩
        obtain ⟨t, a, rfl, ha, ht⟩ := Tls.getA tl hy
        have st := fnd_snoc ha hf
        (purse 7012 => fail)
        refine g_ixT ht rfl ?_
        (purse 7012 => fail)
        by_cases e1 : ((a.s : Nat) : Int) = i
        · rw [decide_eq_true e1]
          (purse 7015 => fail)
          (purse 7012 => fail)
          refine g_ixT ht rfl ?_
          (purse 7012 => fail)
          by_cases e2 : ((a.g : Nat) : Int) = j
          · rw [decide_eq_true e2]
            (purse 7015 => fail)
            (purse 7012 => fail)
            rw [if_pos ⟨e1, e2⟩] at st
            exact k1 a t (fnd_some st) ht
          · rw [decide_eq_false e2]
            (purse 7016 => fail)
            (purse 7012 => fail)
            rw [if_neg (fun z => e2 z.2)] at st
            exact ⟨_, rfl, rfl, st⟩
        · rw [decide_eq_false e1]
          (purse 7016 => fail)
          (purse 7016 => fail)
          (purse 7012 => fail)
          rw [if_neg (fun z => e1 z.1)] at st
          exact ⟨_, rfl, rfl, st⟩
      · rintro σ' H' ⟨o, rfl, rfl, hf⟩
        rw [show vs.length = as.length by rw [tl.len, List.length_map], List.take_length] at hf
        (purse 7012 => fail)
        exact k0 hf
theorem ok_eq (F : FnP K "__eq__" "Way.__eq__" s_Way___eq__ f fd) (T : TW K w mg) : FnOk P w K mg base (L2.CX P w) 2 f fd ["self", "other"] (spEq (ga K "Way")) := by
  refine F.ok c_Way___eq__ (fun vs H Q E h => ?_) (fun cdv A outer s H vs Q E hr h => ⟨_, pss_one (ps_ret (pe_and (pe_callB call_isi (by rfl) T.z_isinstance (by decide +kernel) (pa_cons (pv 1) (pa_cons (pe_glob (v := .ref _) rfl T.g_Way rfl) (pa_nil)))) (pe_and (pe_cmpR (op_eqD hr.units) (pe_fld (pv 0) rfl) (pe_fld (pv 1) rfl) (nomark _)) (pe_one (pe_cmpR (op_eqD hr.units) (pe_fld (pv 0) rfl) (pe_fld (pv 1) rfl) (nomark _)))))), ?_⟩)
  · obtain ⟨x, y, ns, as, rfl, _⟩ := h
    rfl
  · obtain ⟨x, y, ns, as, rfl, ⟨dx, t1, t2, hx, ⟨vs, h1, tl⟩, ⟨ws, h2, tw⟩⟩, f1, f2, k⟩ := h
    (purse 7012 => fail)
    rcases k with ⟨ns', as', ⟨dy, s1, s2, hy, ⟨vs', g1, tl'⟩, ⟨ws', g2, tw'⟩⟩, f1', f2', k⟩ | ⟨⟨xs, hy⟩, k⟩
    · refine g_isi (.own _) (.base (.ins hy T.ic.cl T.ic.ha T.ic.hn T.ic.htk T.ic.hm)) T.ic.me ?_
      (purse 7012 => fail)
      (purse 7015 => fail)
      (purse 7012 => fail)
      refine g_kfld (K := K) hx T.cl T.nD rfl ?_
      (purse 7012 => fail)
      refine g_kfld (K := K) hy T.cl T.nD rfl ?_
      refine g_eqTT h1 tl g1 tl' f1 f1' ?_
      (purse 7012 => fail)
      by_cases e : ns = ns'
      · rw [decide_eq_true e] at k ⊢
        (purse 7015 => fail)
        (purse 7012 => fail)
        refine g_kfld (K := K) hx T.cl T.nL rfl ?_
        (purse 7012 => fail)
        refine g_kfld (K := K) hy T.cl T.nL rfl ?_
        refine g_eqTT h2 tw g2 tw' f2 f2' ?_
        exact k
      · rw [decide_eq_false e] at k ⊢
        (purse 7016 => fail)
        exact k
    · refine g_isi (.own _) (.base (.lst hy)) T.kl ?_
      (purse 7012 => fail)
      (purse 7016 => fail)
      exact k
end

end KW
namespace KW
open PySem PySem.Spec PyProof.Rows L2 AF
open K1
open C8 (pe_gc)
local macro_rules | `(tactic| purse 7003 => fail) => `(tactic| k_dflt (refine Sh.has_ (by assumption) ?_; repeat (first | exact On.here | apply On.next)))
local macro_rules | `(tactic| purse 7004 => fail) => `(tactic| k_dflt (repeat (first | exact On.here | apply On.next)))
local macro_rules | `(tactic| purse 7005 => fail) => `(tactic| (repeat (first | exact Rep.here | apply Rep.next)))
local macro_rules | `(tactic| purse 7006 => fail) => `(tactic| (exact Sh.out (by assumption) (fun b h => by simp [h])))
local macro_rules | `(tactic| purse 7007 => fail) => `(tactic| k_dflt (first | ((with_reducible refine cdivw ?_ ?_) <;> omega) | ((with_reducible show CDiv _ _); constructor <;> omega) | ((with_reducible show CMul _ _); (first | (left; constructor <;> omega) | (right; constructor <;> omega))) | (show (0 : Int) < _; omega)))
local macro_rules | `(tactic| purse 7008 => fail) => `(tactic| first | exact Kd.int _ | exact Kd.bl _ | exact Kd.non | exact Kd.str _ | exact Kd.ins (by (purse 7003 => fail)) | exact Kd.lst (by (purse 7003 => fail)) | exact Kd.tup (by (purse 7003 => fail)))
local macro_rules | `(tactic| purse 7009 => fail) => `(tactic| first | exact DpAll.nil | (apply DpAll.cons; (purse 7010 => fail); (purse 7009 => fail)))
local macro_rules | `(tactic| purse 7010 => fail) => `(tactic| first | exact Dp.int _ | exact Dp.bl _ | exact Dp.non | exact Dp.str _ | (refine dp_int ?_; omega) | (refine dp_bl ?_; simp only [decide_eq_decide]; omega) | (apply dp_lst; (purse 7003 => fail); (purse 7009 => fail)) | (apply dp_tup; (purse 7003 => fail); (purse 7009 => fail)))
local macro_rules | `(tactic| purse 7011 => fail) => `(tactic| first | assumption | omega)
local macro_rules | `(tactic| purse 7001 => fail) => `(tactic| fail "no use")
local macro_rules | `(tactic| purse 7002 => fail) => `(tactic| first
  | (with_reducible refine set_go ?_)
  | (with_reducible refine Step.go ?_)
  | (with_reducible first | refine g_pow10_6 ?_ | refine g_pow10_7 ?_ | refine g_pow10_18 ?_ | refine g_pow10_29 ?_ | refine g_pow10_30 ?_)
  | ((with_reducible refine' g_I ?a0 ?_); (case a0 => (purse 7007 => fail)))
  | ((with_reducible refine' g_ixL ?a0 ?a1 ?_); (case a0 => (purse 7003 => fail)); (case a1 => k_dflt (exact rfl)))
  | ((with_reducible refine' g_kfld ?a0 ?a1 ?a2 ?a3 ?_); (case a0 => (purse 7003 => fail)); (case a1 => k_dflt (assumption)); (case a2 => k_dflt (assumption)); (case a3 => k_dflt (exact rfl)))
  | ((with_reducible refine' g_kprop ?a0 ?_); (case a0 => (purse 7003 => fail)))
  | ((with_reducible refine' g_kmeth ?a0 ?a1 ?_); (case a0 => (purse 7003 => fail)); (case a1 => k_dflt (exact rfl)))
  | ((with_reducible refine' g_own ?a0 ?a1 ?a2 ?_); (case a0 => (purse 7003 => fail)); (case a1 => (purse 7008 => fail)); (case a2 => k_dflt (assumption)))
  | ((with_reducible refine' g_cmp ?a0 ?a1 ?a2 ?_); (case a0 => (purse 7003 => fail)); (case a1 => (purse 7008 => fail)); (case a2 => k_dflt (assumption)))
  | ((with_reducible refine' g_neq ?a0 ?a1 ?a2 ?_); (case a0 => (purse 7003 => fail)); (case a1 => (purse 7008 => fail)); (case a2 => k_dflt (assumption)))
  | ((with_reducible refine' g_right ?a0 ?_); (case a0 => (purse 7003 => fail)))
  | ((with_reducible refine' use_draw ?a0 ?a1 ?a2 ?a3 ?a4 ?_); (case a0 => assumption); (case a1 => intro _ _; (purse 7005 => fail)); (case a2 => assumption); (case a3 => (purse 7011 => fail)); (case a4 => (purse 7011 => fail)); intro _ _ _ _ _ _ _ _)
  | ((with_reducible refine' use_giveI ?a0 ?a1 ?a2 ?_); (case a0 => assumption); (case a1 => intro _ _; (purse 7005 => fail)); (case a2 => assumption); intro _ _ _ _ _ _ _ _)
  | ((with_reducible refine' use_source ?a0 ?a1 ?_); (case a0 => assumption); (case a1 => k_dflt (assumption)); intro _ _ _ _ _ _)
  | (with_reducible refine g_absN ?_; intro _ _)
  | (with_reducible refine g_maxN ?_; intro _ _ _ _)
  | (with_reducible refine g_minN ?_; intro _ _ _ _)
  | ((with_reducible refine' g_kR1 ?a0 ?a1 ?_); (case a0 => omega); (case a1 => omega))
  | ((with_reducible refine' g_neD ?a0 ?a1 ?a2 ?_); (case a0 => (purse 7010 => fail)); (case a1 => (purse 7010 => fail)); (case a2 => k_dflt (rfl)))
  | ((with_reducible refine' g_eqD ?a0 ?a1 ?a2 ?_); (case a0 => (purse 7010 => fail)); (case a1 => (purse 7010 => fail)); (case a2 => k_dflt (rfl)))
  | ((with_reducible refine' g_klst ?a0 ?a1 ?_); (case a0 => assumption); (case a1 => k_dflt (exact rfl)); intro _ _ _ _)
  | ((with_reducible refine' g_ktup ?a0 ?a1 ?_); (case a0 => assumption); (case a1 => k_dflt (exact rfl)); intro _ _ _ _)
  | ((with_reducible refine' g_setL ?a0 ?a1 ?a2 ?_); (case a0 => assumption); (case a1 => (purse 7005 => fail)); (case a2 => k_dflt (exact rfl)); intro _ _)
  | ((with_reducible refine' g_unl3 ?a0 ?_); (case a0 => (purse 7003 => fail)))
  | (purse 7001 => fail))
local macro_rules | `(tactic| purse 7012 => fail) => `(tactic| ((try (with_reducible refine start_go ?_)); repeat (purse 7002 => fail)))
local macro_rules | `(tactic| purse 7013 => fail) => `(tactic| first | rfl | (refine decide_eq_true ?_; omega) | (simp only [Bool.not_eq_true', Bool.not_eq_false', decide_eq_false_iff_not, decide_eq_true_eq, Bool.not_not, decide_eq_decide]; done) | (simp only [Bool.not_eq_true', Bool.not_eq_false', decide_eq_false_iff_not, decide_eq_true_eq, Bool.not_not, decide_eq_decide]; omega))
local macro_rules | `(tactic| purse 7014 => fail) => `(tactic| first | rfl | (refine decide_eq_false ?_; omega) | (simp only [Bool.not_eq_true', Bool.not_eq_false', decide_eq_false_iff_not, decide_eq_true_eq, Bool.not_not, decide_eq_decide]; done) | (simp only [Bool.not_eq_true', Bool.not_eq_false', decide_eq_false_iff_not, decide_eq_true_eq, Bool.not_not, decide_eq_decide]; omega))
local macro_rules | `(tactic| purse 7015 => fail) => `(tactic| ((refine g_yes ?h ?_); (case h => (purse 7013 => fail))))
local macro_rules | `(tactic| purse 7016 => fail) => `(tactic| ((refine g_no ?h ?_); (case h => (purse 7014 => fail))))
local macro_rules | `(tactic| purse 7017 => fail) => `(tactic| first | (purse 7015 => fail) | (purse 7016 => fail))
local macro_rules | `(tactic| purse 7018 => fail) => `(tactic| repeat ((purse 7012 => fail); (purse 7017 => fail)))
local macro_rules | `(tactic| purse 7019 => fail) => `(tactic| repeat (first | exact intIn_nil | refine intIn_cons (by omega) (by omega) ?_))
local macro_rules | `(tactic| purse 7020 => fail) => `(tactic| (simp only [List.length_cons, List.length_nil]; omega))
local macro_rules | `(tactic| purse 7021 => fail) => `(tactic| (refine g_two (fun c => ?_) (fun c => ?_) <;> first | (have c := of_decide_eq_true c) | (have c := of_decide_eq_false c) | skip))
local macro_rules | `(tactic| purse 7022 => fail) => `(tactic| ((purse 7018 => fail); (purse 7012 => fail); try ((purse 7021 => fail) <;> (purse 7022 => fail))))

/-! the law's helpers -/
structure TL (K : PySem.W.Frag) (mg : Str → Option Value) : Prop where
  z_int : mg "int" = none
  z_abs : mg "abs" = none
  z_len : mg "len" = none
section
open He
variable {P : Program} {w : World} {K : PySem.W.Frag} {mg : Str → Option Value} {base : Heap} {f : Addr} {fd : FuncData}
theorem ok_draw (F : FunD K "_law_draw" "_law_draw" (defArgs s_law_draw) (defBody s_law_draw) (defScope s_law_draw) [] [] f fd) (T : TL K mg) : FnOk P w K mg base (L2.CX P w) 2 f fd ["source", "amount"] spDraw := by
  refine F.ok c_law_draw (fun vs H Q E h => ?_) (fun cdv A outer s H vs Q E hr h => ⟨_, pss_cons (ps_if (pt_cmpR op_gt (pe_ix ix_list (pv 0) (pe_int) (fun _ _ => rfl)) (pe_int) (nomark _))
      (pss_cons (ps_set (i := 2) c_law_draw.nd rfl (Or.inl rfl) (pe_op op_mod (pe_callTy cl_int (by rfl) T.z_int (by decide +kernel) (pa_cons (pe_ix ix_list (pv 0) (pe_int) (fun _ _ => rfl)) (pa_nil))) (pv 1)))
      (pss_cons (ps_asg (pe_op op_fdivW (pe_ix ix_list (pv 0) (pe_int) (fun _ _ => rfl)) (pv 1)) (pg_sub (pv 0) (pe_int) set_list))
      (pss_one (ps_ret (pv 2)))))
      (pss_nil))
      (pss_cons (ps_asg (pe_op op_mod (pe_callTy cl_int (by rfl) T.z_int (by decide +kernel) (pa_cons (pe_op op_add (pe_op op_mul (pe_ix ix_list (pv 0) (pe_int) (fun _ _ => rfl)) (pe_int)) (pe_int)) (pa_nil))) (pe_int)) (pg_sub (pv 0) (pe_int) set_list))
      (pss_cons (ps_set (i := 3) c_law_draw.nd rfl (Or.inl rfl) (pe_op op_fdiv (pe_op op_mod (pe_callTy cl_int (by rfl) T.z_int (by decide +kernel) (pa_cons (pe_op op_mul (pe_ix ix_list (pv 0) (pe_int) (fun _ _ => rfl)) (pe_ix ix_list (pv 0) (pe_int) (fun _ _ => rfl))) (pa_nil))) (pe_int)) (pe_int)))
      (pss_cons (ps_if (pt_cmpR op_gt (pv 1) (pe_op op_pow (pe_int) (pe_int)) (nomark _))
      (pss_cons (ps_asg (pe_op op_mod (pe_callTy cl_int (by rfl) T.z_int (by decide +kernel) (pa_cons (pe_op op_add (pe_op op_mul (pe_ix ix_list (pv 0) (pe_int) (fun _ _ => rfl)) (pe_int)) (pe_int)) (pa_nil))) (pe_int)) (pg_sub (pv 0) (pe_int) set_list))
      (pss_one (ps_set (i := 3) c_law_draw.nd rfl (Or.inl rfl) (pe_op op_add (pe_op op_mul (pv 3) (pe_int)) (pe_op op_fdiv (pe_op op_mod (pe_callTy cl_int (by rfl) T.z_int (by decide +kernel) (pa_cons (pe_op op_mul (pe_ix ix_list (pv 0) (pe_int) (fun _ _ => rfl)) (pe_ix ix_list (pv 0) (pe_int) (fun _ _ => rfl))) (pa_nil))) (pe_int)) (pe_int))))))
      (pss_nil))
      (pss_one (ps_ret (pe_op op_mod (pe_callTy cl_int (by rfl) T.z_int (by decide +kernel) (pa_cons (pv 3) (pa_nil))) (pv 1))))))), ?_⟩)
  · obtain ⟨a, n, s, m, rfl, _⟩ := h
    rfl
  · obtain ⟨a, n, s, m, rfl, ha, hs, h1, h2, k⟩ := h
    have S : Sh H (fun b => b = a) H [(a, .lst [.int n, .int s], true)] := Sh.start.take ha rfl (fun _ h => nomatch h)
    obtain ⟨s0, s1, s2⟩ := hs
    (purse 7012 => fail)
    refine g_two (fun c => ?_) (fun c => ?_)
    · have c := of_decide_eq_true c
      (purse 7012 => fail)
      refine k _ _ _ _ (by (purse 7006 => fail)) (by (purse 7003 => fail)) ?_ ?_ ?_
      · exact Int.emod_nonneg _ (by omega)
      · exact Int.emod_lt_of_pos _ (by omega)
      · exact ⟨Int.ediv_nonneg s0 (by omega), s1, s2⟩
    · (purse 7012 => fail)
      refine g_two (fun c2 => ?_) (fun c2 => ?_)
      · (purse 7012 => fail)
        refine k _ _ _ _ (by (purse 7006 => fail)) (by (purse 7003 => fail)) ?_ ?_ ?_
        · exact Int.emod_nonneg _ (by omega)
        · exact Int.emod_lt_of_pos _ (by omega)
        · exact ⟨s0, Int.emod_nonneg _ (by omega), Int.emod_lt_of_pos _ (by omega)⟩
      · (purse 7012 => fail)
        refine k _ _ _ _ (by (purse 7006 => fail)) (by (purse 7003 => fail)) ?_ ?_ ?_
        · exact Int.emod_nonneg _ (by omega)
        · exact Int.emod_lt_of_pos _ (by omega)
        · exact ⟨s0, Int.emod_nonneg _ (by omega), Int.emod_lt_of_pos _ (by omega)⟩
theorem ok_source (F : FunD K "_law_source" "_law_source" (defArgs s_law_source) (defBody s_law_source) (defScope s_law_source) [] [] f fd) (T : TL K mg) : FnOk P w K mg base (L2.CX P w) 2 f fd ["script", "turn"] (spSource K) := by
  refine F.ok c_law_source (fun vs H Q E h => ?_) (fun cdv A outer s H vs Q E hr h => ⟨_, pss_cons (ps_set (i := 2) c_law_source.nd rfl (Or.inl rfl) (pe_int))
      (pss_cons (ps_if (pt_cmpR op_lt (pv 1) (pe_callB cl_len (by rfl) T.z_len (by decide +kernel) (pa_cons (pv 0) (pa_nil))) (nomark _))
      (pss_one (ps_set (i := 2) c_law_source.nd rfl (Or.inl rfl) (pe_ix ix_list (pv 0) (pv 1) (fun _ _ => rfl))))
      (pss_nil))
      (pss_cons (ps_set (i := 3) c_law_source.nd rfl (Or.inl rfl) (pe_callB cl_abs (by rfl) T.z_abs (by decide +kernel) (pa_cons (pv 2) (pa_nil))))
      (pss_cons (ps_set (i := 4) c_law_source.nd rfl (Or.inl rfl) (pe_op op_mod (pe_callTy cl_int (by rfl) T.z_int (by decide +kernel) (pa_cons (pe_op op_add (pe_op op_add (pe_op op_mul (pe_op op_mod (pe_callTy cl_int (by rfl) T.z_int (by decide +kernel) (pa_cons (pv 3) (pa_nil))) (pe_int)) (pe_int)) (pe_op op_mul (pe_int) (pv 1))) (pe_int)) (pa_nil))) (pe_int)))
      (pss_cons (ps_if (pt_cmpR op_lt (pv 3) (pe_op op_pow (pe_int) (pe_int)) (nomark _))
      (pss_one (ps_set (i := 3) c_law_source.nd rfl (Or.inl rfl) (pe_int)))
      (pss_nil))
      (pss_one (ps_ret (pe_lst (pa_cons (pv 3) (pa_cons (pv 4) (pa_nil)))))))))), ?_⟩)
  · obtain ⟨a, ns, t, rfl, _⟩ := h
    rfl
  · obtain ⟨a, ns, t, rfl, hS, k⟩ := h
    have S : Sh H (fun _ => False) H [] := Sh.start
    have fin : ∀ {q : Addr} {n s : Int} {H' : Hp} {l : List Ent}, Sh H (fun _ => False) H' ((q, .lst [.int n, .int (s % 2147483647)], true) :: l) → 0 ≤ n → Q (.ref q) H' := fun {q n s H' l} S' h0 =>
      k q n _ H' ((S'.mu _ List.mem_cons_self rfl).elim False.elim id) (S'.out fun _ h => h.elim) (S'.has_ .here) ⟨h0, Int.emod_nonneg _ (by omega), Int.emod_lt_of_pos _ (by omega)⟩
    (purse 7012 => fail)
    refine g_lenL hS ?_
    (purse 7012 => fail)
    refine g_two (fun c => ?_) (fun c => ?_)
    · have c := of_decide_eq_true c
      (purse 7012 => fail)
      obtain ⟨v, hv, e⟩ := atI_some (xs := ns.map V.int) (i := (t : Int)) (by omega) c
      obtain ⟨z, _, rfl⟩ := List.mem_map.mp hv
      refine g_ixQ hS e ?_
      (purse 7012 => fail)
      refine g_two (fun c2 => ?_) (fun c2 => ?_)
      · (purse 7012 => fail)
        refine fin (by assumption) ?_; omega
      · (purse 7012 => fail)
        refine fin (by assumption) ?_; omega
    · (purse 7012 => fail)
      refine g_two (fun c2 => ?_) (fun c2 => ?_)
      · (purse 7012 => fail)
        refine fin (by assumption) ?_; omega
      · (purse 7012 => fail)
        refine fin (by assumption) ?_; omega
end

/-! the law's helper that picks -/
open He in
structure TPk (K : PySem.W.Frag) (mg : Str → Option Value) : Prop extends TL K mg where
  g_law_draw : mg "_law_draw" = some (.ref (ga K "_law_draw"))
  g_law_pick : mg "_law_pick" = some (.ref (ga K "_law_pick"))
  g_law_source : mg "_law_source" = some (.ref (ga K "_law_source"))
section
open He
variable {P : Program} {w : World} {K : PySem.W.Frag} {mg : Str → Option Value} {base : Heap} {f : Addr} {fd : FuncData}
theorem ok_pick (F : FnP K "_law_pick" "_law_pick" s_law_pick f fd) (T : TPk K mg) (D_law_draw : Dn P w K mg base 2 (ga K "_law_draw") ["source", "amount"] spDraw) : FnOk P w K mg base (L2.CX P w) 4 f fd ["source", "items"] spPick := by
  refine F.ok c_law_pick (fun vs H Q E h => ?_) (fun cdv A outer s H vs Q E hr h => ⟨_, pss_one (ps_ret (pe_ix ix_list (pv 1) (pe_dn D_law_draw (rm hr) rfl T.g_law_draw (passes_call (takes_of rfl rfl rfl rfl) fun _ _ _ _ h => h) (pa_cons (pv 0) (pa_cons (pe_callB cl_len (by rfl) T.z_len (by decide +kernel) (pa_cons (pv 1) (pa_nil))) (pa_nil)))) (fun _ _ => rfl))), ?_⟩)
  · obtain ⟨a, p, n, s, xs, rfl, _⟩ := h
    rfl
  · obtain ⟨a, p, n, s, xs, rfl, ha, hs, hp, h1, h2, hne, k⟩ := h
    have S0 : Sh H (fun b => b = a) H [(a, .lst [.int n, .int s], true)] := Sh.start.take ha rfl (fun _ h => nomatch h)
    have S : Sh H (fun b => b = a) H [(p, .lst xs, false), (a, .lst [.int n, .int s], true)] := S0.know hp (fun e he _ => by simp only [List.mem_cons, List.not_mem_nil, or_false] at he; subst he; exact hne)
    (purse 7012 => fail)
    refine g_lenl (by (purse 7003 => fail)) ?_
    (purse 7012 => fail)
    refine g_ixW (by (purse 7003 => fail)) (by assumption) (by assumption) ?_
    intro v hv
    exact k v _ _ _ (by (purse 7006 => fail)) (by (purse 7003 => fail)) hv (by assumption)
end

/-! ways: the law's helpers -/
theorem Dd.flat {xs : List V} (h : Dd xs) : Flat xs := by
  cases h with
  | one hw =>
    intro v hv
    obtain rfl := List.mem_singleton.mp hv
    refine .inr (.inr ⟨_, rfl, ?_⟩)
    rcases List.mem_cons.mp hw with rfl | hw
    · decide +kernel
    rcases List.mem_cons.mp hw with rfl | hw
    · decide +kernel
    rcases List.mem_cons.mp hw with rfl | hw
    · decide +kernel
    rcases List.mem_cons.mp hw with rfl | hw
    · decide +kernel
    obtain rfl := List.mem_singleton.mp hw
    decide +kernel
  | two hw _ _ =>
    intro v hv
    rcases List.mem_cons.mp hv with rfl | hv
    · refine .inr (.inr ⟨_, rfl, ?_⟩)
      rcases List.mem_cons.mp hw with rfl | hw
      · decide +kernel
      obtain rfl := List.mem_singleton.mp hw
      decide +kernel
    · obtain rfl := List.mem_singleton.mp hv
      exact .inl ⟨_, rfl⟩
theorem can_word {wd : Str} (h : wd ∈ (["", "held", "anew"] : List Str)) : (PyData.str wd).canLay0 = true := by
  rcases List.mem_cons.mp h with rfl | h
  · decide +kernel
  rcases List.mem_cons.mp h with rfl | h
  · decide +kernel
  obtain rfl := List.mem_singleton.mp h
  decide +kernel
theorem v5_flat {a : Ar} (h : a.w ∈ (["", "held", "anew"] : List Str)) : Flat (v5 a) := by
  intro v hv
  unfold v5 at hv
  simp only [List.mem_cons, List.not_mem_nil, or_false] at hv
  rcases hv with rfl | rfl | rfl | rfl | rfl
  · exact .inl ⟨_, rfl⟩
  · exact .inl ⟨_, rfl⟩
  · exact .inl ⟨_, rfl⟩
  · cases a.m with
    | none => exact .inr (.inl rfl)
    | some u => exact .inl ⟨u, rfl⟩
  · exact .inr (.inr ⟨_, rfl, can_word h⟩)
structure Pst (H0 H : Hp) (s N : Addr) (vs : List V) (xss : List (List V)) : Prop where
  u : UpX s H0 H
  src : Src H s
  hN : H N = some (.lst vs)
  tl : Tls H vs xss
  nN : H0 N = none
  ne : N ≠ s
section
variable {H0 H H' : Hp} {s N t : Addr} {vs : List V} {xss : List (List V)} {xs : List V}
theorem Pst.up (h : Pst H0 H s N vs xss) (u : Up H H') : Pst H0 H' s N vs xss := ⟨h.u.trans u.toX, h.src.up u, u _ _ h.hN, h.tl.up u, h.nN, h.ne⟩
theorem Pst.dr (h : Pst H0 H s N vs xss) (u : UpX s H H') (sr : Src H' s) : Pst H0 H' s N vs xss := ⟨h.u.trans u, sr, u _ _ h.ne h.hN, h.tl.upX u h.src.notup, h.nN, h.ne⟩
theorem _root_.AF.UpX.setF {x p : Addr} {o : HO} (u : UpX x H0 H) (h : H0 p = none) : UpX x H0 (upd H p o) := fun b v n e => by
  rw [upd_ne (fun z => by rw [z, h] at e; cases e)]
  exact u _ _ n e
theorem _root_.AF.Src.set {p : Addr} {o : HO} (h : Src H s) (n : p ≠ s) : Src (upd H p o) s := by
  obtain ⟨i, z, a, b⟩ := h
  exact ⟨i, z, by rw [upd_ne (Ne.symm n)]; exact a, b⟩
theorem Pst.app (h : Pst H0 H s N vs xss) (ht : H t = some (.tup xs)) : Pst H0 (upd H N (.lst (vs ++ [.ref t]))) s N (vs ++ [.ref t]) (xss ++ [xs]) :=
  ⟨h.u.setF h.nN, h.src.set h.ne, upd_same, (h.tl.append (.one ht)).lstAt h.hN, h.nN, h.ne⟩
end
/-- nodes kept in a list that stands -/
structure Nst (H : Hp) (N : Addr) (vs : List V) (ns : List (List V)) : Prop where
  h : H N = some (.lst vs)
  t : Tls H vs ns
section
variable {H H' : Hp} {N s A : Addr} {vs : List V} {ns : List (List V)} {ys zs : List V}
theorem Nst.up (n : Nst H N vs ns) (u : Up H H') : Nst H' N vs ns := ⟨u _ _ n.h, n.t.up u⟩
theorem Nst.upX (n : Nst H N vs ns) (u : UpX s H H') (ne : N ≠ s) (h : ∀ xs, H s ≠ some (.tup xs)) : Nst H' N vs ns := ⟨u _ _ ne n.h, n.t.upX u h⟩
theorem Nst.lst (n : Nst H N vs ns) (ne : N ≠ A) (h : H A = some (.lst ys)) : Nst (upd H A (.lst zs)) N vs ns := ⟨by rw [upd_ne ne]; exact n.h, n.t.lstAt h⟩
end
def spMaker : Sp := fun vs H Q _ => ∃ (s : Addr) (b : Int), vs = [.ref s, .int b] ∧ Src H s ∧ 1 ≤ b ∧ b ≤ 1000000000 ∧ ∀ t xs H', UpX s H H' → Src H' s → H' t = some (.tup xs) → Dd xs → mkB xs = true → Q (.ref t) H'
def spUser : Sp := fun vs H Q _ => ∃ (s : Addr) (b : Int), vs = [.ref s, .int b] ∧ Src H s ∧ 1 ≤ b ∧ b ≤ 1000000000 ∧ ∀ t xs H', UpX s H H' → Src H' s → H' t = some (.tup xs) → Dd xs → mkB xs = false → Q (.ref t) H'
structure Dr (lg : Int) (a : Ar) : Prop where
  h1 : 1 ≤ a.l
  h2 : a.l ≤ lg
  hm : ∀ u, a.m = some u → a.l ≤ u ∧ u ≤ 2 * lg
  hw : a.w ∈ (["", "held"] : List Str)
def spArw : Sp := fun vs H Q _ => ∃ (s : Addr) (i j : Nat) (lg : Int) (e : Bool), vs = [.ref s, .int (i : Nat), .int (j : Nat), .int lg, .bl e] ∧ Src H s ∧ 1 ≤ lg ∧ lg ≤ 100000000 ∧
  ∀ t a H', UpX s H H' → Src H' s → H' t = some (.tup (v5 a)) → a.s = i → a.g = j → Dr lg a → Q (.ref t) H'
open He in
structure TWl (K : PySem.W.Frag) (mg : Str → Option Value) : Prop extends TPk K mg where
  g_law_maker : mg "_law_maker" = some (.ref (ga K "_law_maker"))
  g_law_user : mg "_law_user" = some (.ref (ga K "_law_user"))
  g_law_arrow : mg "_law_arrow" = some (.ref (ga K "_law_arrow"))
  g_law_plan : mg "_law_plan" = some (.ref (ga K "_law_plan"))
  z_range : mg "range" = none
section
open He
variable {P : Program} {w : World} {K : PySem.W.Frag} {mg : Str → Option Value} {base : Heap} {f : Addr} {fd : FuncData}
theorem ok_maker (F : FnP K "_law_maker" "_law_maker" s_law_maker f fd) (T : TWl K mg) (D_law_draw : Dn P w K mg base 2 (ga K "_law_draw") ["source", "amount"] spDraw) (D_law_pick : Dn P w K mg base 4 (ga K "_law_pick") ["source", "items"] spPick) : FnOk P w K mg base (L2.CX P w) 6 f fd ["source", "back"] spMaker := by
  refine F.ok c_law_maker (fun vs H Q E h => ?_) (fun cdv A outer s H vs Q E hr h => ⟨_, pss_one (ps_ret (pe_dn D_law_pick (rm hr) rfl T.g_law_pick (passes_call (takes_of rfl rfl rfl rfl) fun _ _ _ _ h => h) (pa_cons (pv 0) (pa_cons (pe_lst (pa_cons (pe_tup (pa_cons (pe_str) (pa_nil))) (pa_cons (pe_tup (pa_cons (pe_str) (pa_nil))) (pa_cons (pe_tup (pa_cons (pe_str) (pa_cons (pe_op op_add (pe_int) (pe_dn D_law_draw (rm hr) rfl T.g_law_draw (passes_call (takes_of rfl rfl rfl rfl) fun _ _ _ _ h => h) (pa_cons (pv 0) (pa_cons (pv 1) (pa_nil))))) (pa_nil)))) (pa_nil))))) (pa_nil))))), ?_⟩)
  · obtain ⟨s, b, rfl, _⟩ := h
    rfl
  · obtain ⟨s', b, rfl, hs, b1, b2, k⟩ := h
    have hs0 := hs
    have uu : UpX s' H H := fun _ _ _ e => e
    have r0 : True := trivial
    (purse 7012 => fail)
    refine g_t0 (by rfl) fun p0 hp0 => ?_
    have u0 := Up.new (o := .tup [.str "make"]) hp0
    have hs1 := hs0.up u0
    have uu0 := uu.trans (u0.toX (x := s'))
    have q0 : upd H p0 (.tup [.str "make"]) p0 = some (.tup [.str "make"]) := upd_same
    generalize upd H p0 (.tup [.str "make"]) = H0 at u0 hs1 uu0 q0 ⊢
    (purse 7012 => fail)
    refine g_t0 (by rfl) fun p1 hp1 => ?_
    have u1 := Up.new (o := .tup [.str "make"]) hp1
    have hs2 := hs1.up u1
    have uu1 := uu0.trans (u1.toX (x := s'))
    have q1 : upd H0 p1 (.tup [.str "make"]) p1 = some (.tup [.str "make"]) := upd_same
    have q0 := u1 _ _ q0
    generalize upd H0 p1 (.tup [.str "make"]) = H1 at u1 hs2 uu1 q0 q1 ⊢
    (purse 7012 => fail)
    refine use_drawX hs2 (by omega) (by omega) fun d Hd d0 d1 ud hsd => ?_
    have uud := uu1.trans ud
    have q0 := ud _ _ (hs2.ne q0) q0
    have q1 := ud _ _ (hs2.ne q1) q1
    (purse 7012 => fail)
    refine g_t0 (by rfl) fun p2 hp2 => ?_
    have u2 := Up.new (o := .tup [.str "unpack", .int (1 + d)]) hp2
    have hse := hsd.up u2
    have uue := uud.trans (u2.toX (x := s'))
    have q2 : upd Hd p2 (.tup [.str "unpack", .int (1 + d)]) p2 = some (.tup [.str "unpack", .int (1 + d)]) := upd_same
    have q0 := u2 _ _ q0
    have q1 := u2 _ _ q1
    generalize upd Hd p2 (.tup [.str "unpack", .int (1 + d)]) = He at u2 hse uue q0 q1 q2 ⊢
    (purse 7012 => fail)
    refine g_l0 (by rfl) fun pl hpl => ?_
    have ul := Up.new (o := .lst [.ref p0, .ref p1, .ref p2]) hpl
    have hsl := hse.up ul
    have uul := uue.trans (ul.toX (x := s'))
    have ql : upd He pl (.lst [.ref p0, .ref p1, .ref p2]) pl = some (.lst [.ref p0, .ref p1, .ref p2]) := upd_same
    have ne : pl ≠ s' := fun z => by
      obtain ⟨i, y, a, _⟩ := hse
      rw [z, a] at hpl; cases hpl
    have q0 := ul _ _ q0
    have q1 := ul _ _ q1
    have q2 := ul _ _ q2
    generalize upd He pl (.lst [.ref p0, .ref p1, .ref p2]) = Hl at ul hsl uul ql q0 q1 q2 ⊢
    (purse 7012 => fail)
    refine use_pickX hsl ql (by simp) (by simp) ne fun v Hz hv uz hsz => ?_
    have uuz := uul.trans uz
    rcases List.mem_cons.mp hv with rfl | hv
    · exact k _ _ _ uuz hsz (uz _ _ (hsl.ne q0) q0) (.one (by decide)) rfl
    rcases List.mem_cons.mp hv with rfl | hv
    · exact k _ _ _ uuz hsz (uz _ _ (hsl.ne q1) q1) (.one (by decide)) rfl
    · obtain rfl := List.mem_singleton.mp hv
      exact k _ _ _ uuz hsz (uz _ _ (hsl.ne q2) q2) (.two (by decide) (by omega) (by omega)) rfl
theorem ok_user (F : FnP K "_law_user" "_law_user" s_law_user f fd) (T : TWl K mg) (D_law_draw : Dn P w K mg base 2 (ga K "_law_draw") ["source", "amount"] spDraw) (D_law_pick : Dn P w K mg base 4 (ga K "_law_pick") ["source", "items"] spPick) : FnOk P w K mg base (L2.CX P w) 6 f fd ["source", "back"] spUser := by
  refine F.ok c_law_user (fun vs H Q E h => ?_) (fun cdv A outer s H vs Q E hr h => ⟨_, pss_one (ps_ret (pe_dn D_law_pick (rm hr) rfl T.g_law_pick (passes_call (takes_of rfl rfl rfl rfl) fun _ _ _ _ h => h) (pa_cons (pv 0) (pa_cons (pe_lst (pa_cons (pe_tup (pa_cons (pe_str) (pa_nil))) (pa_cons (pe_tup (pa_cons (pe_str) (pa_nil))) (pa_cons (pe_tup (pa_cons (pe_str) (pa_nil))) (pa_cons (pe_tup (pa_cons (pe_str) (pa_nil))) (pa_cons (pe_tup (pa_cons (pe_str) (pa_nil))) (pa_cons (pe_tup (pa_cons (pe_str) (pa_nil))) (pa_cons (pe_tup (pa_cons (pe_str) (pa_cons (pe_op op_add (pe_int) (pe_dn D_law_draw (rm hr) rfl T.g_law_draw (passes_call (takes_of rfl rfl rfl rfl) fun _ _ _ _ h => h) (pa_cons (pv 0) (pa_cons (pv 1) (pa_nil))))) (pa_nil)))) (pa_nil))))))))) (pa_nil))))), ?_⟩)
  · obtain ⟨s, b, rfl, _⟩ := h
    rfl
  · obtain ⟨s', b, rfl, hs, b1, b2, k⟩ := h
    have hs0 := hs
    have uu : UpX s' H H := fun _ _ _ e => e
    have r0 : True := trivial
    (purse 7012 => fail)
    refine g_t0 (by rfl) fun p0 hp0 => ?_
    have u0 := Up.new (o := .tup [.str "read"]) hp0
    have hs1 := hs0.up u0
    have uu0 := uu.trans (u0.toX (x := s'))
    have q0 : upd H p0 (.tup [.str "read"]) p0 = some (.tup [.str "read"]) := upd_same
    generalize upd H p0 (.tup [.str "read"]) = H0 at u0 hs1 uu0 q0 ⊢
    (purse 7012 => fail)
    refine g_t0 (by rfl) fun p1 hp1 => ?_
    have u1 := Up.new (o := .tup [.str "read"]) hp1
    have hs2 := hs1.up u1
    have uu1 := uu0.trans (u1.toX (x := s'))
    have q1 : upd H0 p1 (.tup [.str "read"]) p1 = some (.tup [.str "read"]) := upd_same
    have q0 := u1 _ _ q0
    generalize upd H0 p1 (.tup [.str "read"]) = H1 at u1 hs2 uu1 q0 q1 ⊢
    (purse 7012 => fail)
    refine g_t0 (by rfl) fun p2 hp2 => ?_
    have u2 := Up.new (o := .tup [.str "read"]) hp2
    have hs3 := hs2.up u2
    have uu2 := uu1.trans (u2.toX (x := s'))
    have q2 : upd H1 p2 (.tup [.str "read"]) p2 = some (.tup [.str "read"]) := upd_same
    have q0 := u2 _ _ q0
    have q1 := u2 _ _ q1
    generalize upd H1 p2 (.tup [.str "read"]) = H2 at u2 hs3 uu2 q0 q1 q2 ⊢
    (purse 7012 => fail)
    refine g_t0 (by rfl) fun p3 hp3 => ?_
    have u3 := Up.new (o := .tup [.str "write"]) hp3
    have hs4 := hs3.up u3
    have uu3 := uu2.trans (u3.toX (x := s'))
    have q3 : upd H2 p3 (.tup [.str "write"]) p3 = some (.tup [.str "write"]) := upd_same
    have q0 := u3 _ _ q0
    have q1 := u3 _ _ q1
    have q2 := u3 _ _ q2
    generalize upd H2 p3 (.tup [.str "write"]) = H3 at u3 hs4 uu3 q0 q1 q2 q3 ⊢
    (purse 7012 => fail)
    refine g_t0 (by rfl) fun p4 hp4 => ?_
    have u4 := Up.new (o := .tup [.str "rename"]) hp4
    have hs5 := hs4.up u4
    have uu4 := uu3.trans (u4.toX (x := s'))
    have q4 : upd H3 p4 (.tup [.str "rename"]) p4 = some (.tup [.str "rename"]) := upd_same
    have q0 := u4 _ _ q0
    have q1 := u4 _ _ q1
    have q2 := u4 _ _ q2
    have q3 := u4 _ _ q3
    generalize upd H3 p4 (.tup [.str "rename"]) = H4 at u4 hs5 uu4 q0 q1 q2 q3 q4 ⊢
    (purse 7012 => fail)
    refine g_t0 (by rfl) fun p5 hp5 => ?_
    have u5 := Up.new (o := .tup [.str "touch"]) hp5
    have hs6 := hs5.up u5
    have uu5 := uu4.trans (u5.toX (x := s'))
    have q5 : upd H4 p5 (.tup [.str "touch"]) p5 = some (.tup [.str "touch"]) := upd_same
    have q0 := u5 _ _ q0
    have q1 := u5 _ _ q1
    have q2 := u5 _ _ q2
    have q3 := u5 _ _ q3
    have q4 := u5 _ _ q4
    generalize upd H4 p5 (.tup [.str "touch"]) = H5 at u5 hs6 uu5 q0 q1 q2 q3 q4 q5 ⊢
    (purse 7012 => fail)
    refine use_drawX hs6 (by omega) (by omega) fun d Hd d0 d1 ud hsd => ?_
    have uud := uu5.trans ud
    have q0 := ud _ _ (hs6.ne q0) q0
    have q1 := ud _ _ (hs6.ne q1) q1
    have q2 := ud _ _ (hs6.ne q2) q2
    have q3 := ud _ _ (hs6.ne q3) q3
    have q4 := ud _ _ (hs6.ne q4) q4
    have q5 := ud _ _ (hs6.ne q5) q5
    (purse 7012 => fail)
    refine g_t0 (by rfl) fun p6 hp6 => ?_
    have u6 := Up.new (o := .tup [.str "setback", .int (1 + d)]) hp6
    have hse := hsd.up u6
    have uue := uud.trans (u6.toX (x := s'))
    have q6 : upd Hd p6 (.tup [.str "setback", .int (1 + d)]) p6 = some (.tup [.str "setback", .int (1 + d)]) := upd_same
    have q0 := u6 _ _ q0
    have q1 := u6 _ _ q1
    have q2 := u6 _ _ q2
    have q3 := u6 _ _ q3
    have q4 := u6 _ _ q4
    have q5 := u6 _ _ q5
    generalize upd Hd p6 (.tup [.str "setback", .int (1 + d)]) = He at u6 hse uue q0 q1 q2 q3 q4 q5 q6 ⊢
    (purse 7012 => fail)
    refine g_l0 (by rfl) fun pl hpl => ?_
    have ul := Up.new (o := .lst [.ref p0, .ref p1, .ref p2, .ref p3, .ref p4, .ref p5, .ref p6]) hpl
    have hsl := hse.up ul
    have uul := uue.trans (ul.toX (x := s'))
    have ql : upd He pl (.lst [.ref p0, .ref p1, .ref p2, .ref p3, .ref p4, .ref p5, .ref p6]) pl = some (.lst [.ref p0, .ref p1, .ref p2, .ref p3, .ref p4, .ref p5, .ref p6]) := upd_same
    have ne : pl ≠ s' := fun z => by
      obtain ⟨i, y, a, _⟩ := hse
      rw [z, a] at hpl; cases hpl
    have q0 := ul _ _ q0
    have q1 := ul _ _ q1
    have q2 := ul _ _ q2
    have q3 := ul _ _ q3
    have q4 := ul _ _ q4
    have q5 := ul _ _ q5
    have q6 := ul _ _ q6
    generalize upd He pl (.lst [.ref p0, .ref p1, .ref p2, .ref p3, .ref p4, .ref p5, .ref p6]) = Hl at ul hsl uul ql q0 q1 q2 q3 q4 q5 q6 ⊢
    (purse 7012 => fail)
    refine use_pickX hsl ql (by simp) (by simp) ne fun v Hz hv uz hsz => ?_
    have uuz := uul.trans uz
    rcases List.mem_cons.mp hv with rfl | hv
    · exact k _ _ _ uuz hsz (uz _ _ (hsl.ne q0) q0) (.one (by decide)) rfl
    rcases List.mem_cons.mp hv with rfl | hv
    · exact k _ _ _ uuz hsz (uz _ _ (hsl.ne q1) q1) (.one (by decide)) rfl
    rcases List.mem_cons.mp hv with rfl | hv
    · exact k _ _ _ uuz hsz (uz _ _ (hsl.ne q2) q2) (.one (by decide)) rfl
    rcases List.mem_cons.mp hv with rfl | hv
    · exact k _ _ _ uuz hsz (uz _ _ (hsl.ne q3) q3) (.one (by decide)) rfl
    rcases List.mem_cons.mp hv with rfl | hv
    · exact k _ _ _ uuz hsz (uz _ _ (hsl.ne q4) q4) (.one (by decide)) rfl
    rcases List.mem_cons.mp hv with rfl | hv
    · exact k _ _ _ uuz hsz (uz _ _ (hsl.ne q5) q5) (.one (by decide)) rfl
    · obtain rfl := List.mem_singleton.mp hv
      exact k _ _ _ uuz hsz (uz _ _ (hsl.ne q6) q6) (.two (by decide) (by omega) (by omega)) rfl
theorem ok_arw (F : FnP K "_law_arrow" "_law_arrow" s_law_arrow f fd) (T : TWl K mg) (D_law_draw : Dn P w K mg base 2 (ga K "_law_draw") ["source", "amount"] spDraw) (D_law_pick : Dn P w K mg base 4 (ga K "_law_pick") ["source", "items"] spPick) : FnOk P w K mg base (L2.CX P w) 6 f fd ["source", "start", "goal", "longest", "ends"] spArw := by
  refine F.ok c_law_arrow (fun vs H Q E h => ?_) (fun cdv A outer s H vs Q E hr h => ⟨_, pss_cons (ps_set (i := 5) c_law_arrow.nd rfl (Or.inl rfl) (pe_op op_add (pe_int) (pe_dn D_law_draw (rm hr) rfl T.g_law_draw (passes_call (takes_of rfl rfl rfl rfl) fun _ _ _ _ h => h) (pa_cons (pv 0) (pa_cons (pv 3) (pa_nil))))))
      (pss_cons (ps_set (i := 6) c_law_arrow.nd rfl (Or.inl rfl) (pe_op op_add (pv 5) (pe_dn D_law_draw (rm hr) rfl T.g_law_draw (passes_call (takes_of rfl rfl rfl rfl) fun _ _ _ _ h => h) (pa_cons (pv 0) (pa_cons (pv 3) (pa_nil))))))
      (pss_cons (ps_if (PW.pt (pw_and (pt_val (pv 4)) (pw_and1 (pt_cmpR op_eq (pe_dn D_law_draw (rm hr) rfl T.g_law_draw (passes_call (takes_of rfl rfl rfl rfl) fun _ _ _ _ h => h) (pa_cons (pv 0) (pa_cons (pe_int) (pa_nil)))) (pe_int) (nomark _)))))
      (pss_one (ps_set (i := 6) c_law_arrow.nd rfl (Or.inl rfl) (pe_non)))
      (pss_nil))
      (pss_one (ps_ret (pe_tup (pa_cons (pv 1) (pa_cons (pv 2) (pa_cons (pv 5) (pa_cons (pv 6) (pa_cons (pe_dn D_law_pick (rm hr) rfl T.g_law_pick (passes_call (takes_of rfl rfl rfl rfl) fun _ _ _ _ h => h) (pa_cons (pv 0) (pa_cons (pe_lst (pa_cons (pe_str) (pa_cons (pe_str) (pa_cons (pe_str) (pa_nil))))) (pa_nil)))) (pa_nil))))))))))), ?_⟩)
  · obtain ⟨s, i, j, lg, e, rfl, _⟩ := h
    rfl
  · obtain ⟨s', i, j, lg, e, rfl, hs, l1, l2, k⟩ := h
    (purse 7012 => fail)
    refine use_drawX hs (by omega) (by omega) fun d Ha d0 d1 ua hsa => ?_
    (purse 7012 => fail)
    refine use_drawX hsa (by omega) (by omega) fun d2 Hb d20 d21 ub hsb => ?_
    have uub := ua.trans ub
    (purse 7012 => fail)
    cases e with
    | false =>
      (purse 7016 => fail)
      (purse 7016 => fail)
      have hsc := hsb
      have uuc := uub
      (purse 7012 => fail)
      refine g_l0 (by rfl) fun pl hpl => ?_
      have ul := Up.new (o := .lst [.str "", .str "", .str "held"]) hpl
      have hsl := hsc.up ul
      have uul := uuc.trans (ul.toX (x := s'))
      have ql : upd Hb pl (.lst [.str "", .str "", .str "held"]) pl = some (.lst [.str "", .str "", .str "held"]) := upd_same
      have ne : pl ≠ s' := fun z => by
        obtain ⟨i, y, a, _⟩ := hsc
        rw [z, a] at hpl; cases hpl
      generalize upd Hb pl (.lst [.str "", .str "", .str "held"]) = Hl at ul hsl uul ql ⊢
      (purse 7012 => fail)
      refine use_pickX hsl ql (by simp) (by simp) ne fun v Hz hv uz hsz => ?_
      have uuz := uul.trans uz
      obtain ⟨wd, rfl, hw⟩ : ∃ wd : Str, v = .str wd ∧ wd ∈ (["", "held"] : List Str) := by
        rcases List.mem_cons.mp hv with rfl | hv
        · exact ⟨_, rfl, by decide⟩
        rcases List.mem_cons.mp hv with rfl | hv
        · exact ⟨_, rfl, by decide⟩
        obtain rfl := List.mem_singleton.mp hv
        exact ⟨_, rfl, by decide⟩
      (purse 7012 => fail)
      refine g_t0 (by rfl) fun pt hpt => ?_
      have ut := Up.new (o := .tup (v5 ⟨i, j, 1 + d, some (1 + d + d2), wd⟩)) hpt
      exact k pt ⟨i, j, 1 + d, some (1 + d + d2), wd⟩ _ (uuz.trans (ut.toX (x := s'))) (hsz.up ut) upd_same rfl rfl ⟨by show 1 ≤ 1 + d; omega, by show 1 + d ≤ lg; omega, fun u hu => (by cases hu; show 1 + d ≤ _ ∧ _ ≤ _; omega), hw⟩
    | true =>
      (purse 7015 => fail)
      (purse 7012 => fail)
      refine use_drawX hsb (by omega) (by omega) fun d3 Hc d30 d31 uc hsc => ?_
      have uuc := uub.trans uc
      (purse 7012 => fail)
      refine g_two (fun c => ?_) (fun c => ?_)
      · (purse 7012 => fail)
        (purse 7012 => fail)
        refine g_l0 (by rfl) fun pl hpl => ?_
        have ul := Up.new (o := .lst [.str "", .str "", .str "held"]) hpl
        have hsl := hsc.up ul
        have uul := uuc.trans (ul.toX (x := s'))
        have ql : upd Hc pl (.lst [.str "", .str "", .str "held"]) pl = some (.lst [.str "", .str "", .str "held"]) := upd_same
        have ne : pl ≠ s' := fun z => by
          obtain ⟨i, y, a, _⟩ := hsc
          rw [z, a] at hpl; cases hpl
        generalize upd Hc pl (.lst [.str "", .str "", .str "held"]) = Hl at ul hsl uul ql ⊢
        (purse 7012 => fail)
        refine use_pickX hsl ql (by simp) (by simp) ne fun v Hz hv uz hsz => ?_
        have uuz := uul.trans uz
        obtain ⟨wd, rfl, hw⟩ : ∃ wd : Str, v = .str wd ∧ wd ∈ (["", "held"] : List Str) := by
          rcases List.mem_cons.mp hv with rfl | hv
          · exact ⟨_, rfl, by decide⟩
          rcases List.mem_cons.mp hv with rfl | hv
          · exact ⟨_, rfl, by decide⟩
          obtain rfl := List.mem_singleton.mp hv
          exact ⟨_, rfl, by decide⟩
        (purse 7012 => fail)
        refine g_t0 (by rfl) fun pt hpt => ?_
        have ut := Up.new (o := .tup (v5 ⟨i, j, 1 + d, none, wd⟩)) hpt
        exact k pt ⟨i, j, 1 + d, none, wd⟩ _ (uuz.trans (ut.toX (x := s'))) (hsz.up ut) upd_same rfl rfl ⟨by show 1 ≤ 1 + d; omega, by show 1 + d ≤ lg; omega, fun u hu => (by cases hu), hw⟩
      · (purse 7012 => fail)
        (purse 7012 => fail)
        refine g_l0 (by rfl) fun pl hpl => ?_
        have ul := Up.new (o := .lst [.str "", .str "", .str "held"]) hpl
        have hsl := hsc.up ul
        have uul := uuc.trans (ul.toX (x := s'))
        have ql : upd Hc pl (.lst [.str "", .str "", .str "held"]) pl = some (.lst [.str "", .str "", .str "held"]) := upd_same
        have ne : pl ≠ s' := fun z => by
          obtain ⟨i, y, a, _⟩ := hsc
          rw [z, a] at hpl; cases hpl
        generalize upd Hc pl (.lst [.str "", .str "", .str "held"]) = Hl at ul hsl uul ql ⊢
        (purse 7012 => fail)
        refine use_pickX hsl ql (by simp) (by simp) ne fun v Hz hv uz hsz => ?_
        have uuz := uul.trans uz
        obtain ⟨wd, rfl, hw⟩ : ∃ wd : Str, v = .str wd ∧ wd ∈ (["", "held"] : List Str) := by
          rcases List.mem_cons.mp hv with rfl | hv
          · exact ⟨_, rfl, by decide⟩
          rcases List.mem_cons.mp hv with rfl | hv
          · exact ⟨_, rfl, by decide⟩
          obtain rfl := List.mem_singleton.mp hv
          exact ⟨_, rfl, by decide⟩
        (purse 7012 => fail)
        refine g_t0 (by rfl) fun pt hpt => ?_
        have ut := Up.new (o := .tup (v5 ⟨i, j, 1 + d, some (1 + d + d2), wd⟩)) hpt
        exact k pt ⟨i, j, 1 + d, some (1 + d + d2), wd⟩ _ (uuz.trans (ut.toX (x := s'))) (hsz.up ut) upd_same rfl rfl ⟨by show 1 ≤ 1 + d; omega, by show 1 + d ≤ lg; omega, fun u hu => (by cases hu; show 1 + d ≤ _ ∧ _ ≤ _; omega), hw⟩
end

end KW
namespace KW
open PySem PySem.Spec PyProof.Rows L2 AF
open K1
open C8 (pe_gc)
local macro_rules | `(tactic| purse 7003 => fail) => `(tactic| k_dflt (refine Sh.has_ (by assumption) ?_; repeat (first | exact On.here | apply On.next)))
local macro_rules | `(tactic| purse 7004 => fail) => `(tactic| k_dflt (repeat (first | exact On.here | apply On.next)))
local macro_rules | `(tactic| purse 7005 => fail) => `(tactic| (repeat (first | exact Rep.here | apply Rep.next)))
local macro_rules | `(tactic| purse 7006 => fail) => `(tactic| (exact Sh.out (by assumption) (fun b h => by simp [h])))
local macro_rules | `(tactic| purse 7007 => fail) => `(tactic| k_dflt (first | ((with_reducible refine cdivw ?_ ?_) <;> omega) | ((with_reducible show CDiv _ _); constructor <;> omega) | ((with_reducible show CMul _ _); (first | (left; constructor <;> omega) | (right; constructor <;> omega))) | (show (0 : Int) < _; omega)))
local macro_rules | `(tactic| purse 7008 => fail) => `(tactic| first | exact Kd.int _ | exact Kd.bl _ | exact Kd.non | exact Kd.str _ | exact Kd.ins (by (purse 7003 => fail)) | exact Kd.lst (by (purse 7003 => fail)) | exact Kd.tup (by (purse 7003 => fail)))
local macro_rules | `(tactic| purse 7009 => fail) => `(tactic| first | exact DpAll.nil | (apply DpAll.cons; (purse 7010 => fail); (purse 7009 => fail)))
local macro_rules | `(tactic| purse 7010 => fail) => `(tactic| first | exact Dp.int _ | exact Dp.bl _ | exact Dp.non | exact Dp.str _ | (refine dp_int ?_; omega) | (refine dp_bl ?_; simp only [decide_eq_decide]; omega) | (apply dp_lst; (purse 7003 => fail); (purse 7009 => fail)) | (apply dp_tup; (purse 7003 => fail); (purse 7009 => fail)))
local macro_rules | `(tactic| purse 7011 => fail) => `(tactic| first | assumption | omega)
local macro_rules | `(tactic| purse 7001 => fail) => `(tactic| fail "no use")
local macro_rules | `(tactic| purse 7002 => fail) => `(tactic| first
  | (with_reducible refine set_go ?_)
  | (with_reducible refine Step.go ?_)
  | (with_reducible first | refine g_pow10_6 ?_ | refine g_pow10_7 ?_ | refine g_pow10_18 ?_ | refine g_pow10_29 ?_ | refine g_pow10_30 ?_)
  | ((with_reducible refine' g_I ?a0 ?_); (case a0 => (purse 7007 => fail)))
  | ((with_reducible refine' g_ixL ?a0 ?a1 ?_); (case a0 => (purse 7003 => fail)); (case a1 => k_dflt (exact rfl)))
  | ((with_reducible refine' g_kfld ?a0 ?a1 ?a2 ?a3 ?_); (case a0 => (purse 7003 => fail)); (case a1 => k_dflt (assumption)); (case a2 => k_dflt (assumption)); (case a3 => k_dflt (exact rfl)))
  | ((with_reducible refine' g_kprop ?a0 ?_); (case a0 => (purse 7003 => fail)))
  | ((with_reducible refine' g_kmeth ?a0 ?a1 ?_); (case a0 => (purse 7003 => fail)); (case a1 => k_dflt (exact rfl)))
  | ((with_reducible refine' g_own ?a0 ?a1 ?a2 ?_); (case a0 => (purse 7003 => fail)); (case a1 => (purse 7008 => fail)); (case a2 => k_dflt (assumption)))
  | ((with_reducible refine' g_cmp ?a0 ?a1 ?a2 ?_); (case a0 => (purse 7003 => fail)); (case a1 => (purse 7008 => fail)); (case a2 => k_dflt (assumption)))
  | ((with_reducible refine' g_neq ?a0 ?a1 ?a2 ?_); (case a0 => (purse 7003 => fail)); (case a1 => (purse 7008 => fail)); (case a2 => k_dflt (assumption)))
  | ((with_reducible refine' g_right ?a0 ?_); (case a0 => (purse 7003 => fail)))
  | ((with_reducible refine' use_draw ?a0 ?a1 ?a2 ?a3 ?a4 ?_); (case a0 => assumption); (case a1 => intro _ _; (purse 7005 => fail)); (case a2 => assumption); (case a3 => (purse 7011 => fail)); (case a4 => (purse 7011 => fail)); intro _ _ _ _ _ _ _ _)
  | ((with_reducible refine' use_giveI ?a0 ?a1 ?a2 ?_); (case a0 => assumption); (case a1 => intro _ _; (purse 7005 => fail)); (case a2 => assumption); intro _ _ _ _ _ _ _ _)
  | ((with_reducible refine' use_source ?a0 ?a1 ?_); (case a0 => assumption); (case a1 => k_dflt (assumption)); intro _ _ _ _ _ _)
  | (with_reducible refine g_absN ?_; intro _ _)
  | (with_reducible refine g_maxN ?_; intro _ _ _ _)
  | (with_reducible refine g_minN ?_; intro _ _ _ _)
  | ((with_reducible refine' g_kR1 ?a0 ?a1 ?_); (case a0 => omega); (case a1 => omega))
  | ((with_reducible refine' g_neD ?a0 ?a1 ?a2 ?_); (case a0 => (purse 7010 => fail)); (case a1 => (purse 7010 => fail)); (case a2 => k_dflt (rfl)))
  | ((with_reducible refine' g_eqD ?a0 ?a1 ?a2 ?_); (case a0 => (purse 7010 => fail)); (case a1 => (purse 7010 => fail)); (case a2 => k_dflt (rfl)))
  | ((with_reducible refine' g_klst ?a0 ?a1 ?_); (case a0 => assumption); (case a1 => k_dflt (exact rfl)); intro _ _ _ _)
  | ((with_reducible refine' g_ktup ?a0 ?a1 ?_); (case a0 => assumption); (case a1 => k_dflt (exact rfl)); intro _ _ _ _)
  | ((with_reducible refine' g_setL ?a0 ?a1 ?a2 ?_); (case a0 => assumption); (case a1 => (purse 7005 => fail)); (case a2 => k_dflt (exact rfl)); intro _ _)
  | ((with_reducible refine' g_unl3 ?a0 ?_); (case a0 => (purse 7003 => fail)))
  | (purse 7001 => fail))
local macro_rules | `(tactic| purse 7012 => fail) => `(tactic| ((try (with_reducible refine start_go ?_)); repeat (purse 7002 => fail)))
local macro_rules | `(tactic| purse 7013 => fail) => `(tactic| first | rfl | (refine decide_eq_true ?_; omega) | (simp only [Bool.not_eq_true', Bool.not_eq_false', decide_eq_false_iff_not, decide_eq_true_eq, Bool.not_not, decide_eq_decide]; done) | (simp only [Bool.not_eq_true', Bool.not_eq_false', decide_eq_false_iff_not, decide_eq_true_eq, Bool.not_not, decide_eq_decide]; omega))
local macro_rules | `(tactic| purse 7014 => fail) => `(tactic| first | rfl | (refine decide_eq_false ?_; omega) | (simp only [Bool.not_eq_true', Bool.not_eq_false', decide_eq_false_iff_not, decide_eq_true_eq, Bool.not_not, decide_eq_decide]; done) | (simp only [Bool.not_eq_true', Bool.not_eq_false', decide_eq_false_iff_not, decide_eq_true_eq, Bool.not_not, decide_eq_decide]; omega))
local macro_rules | `(tactic| purse 7015 => fail) => `(tactic| ((refine g_yes ?h ?_); (case h => (purse 7013 => fail))))
local macro_rules | `(tactic| purse 7016 => fail) => `(tactic| ((refine g_no ?h ?_); (case h => (purse 7014 => fail))))
local macro_rules | `(tactic| purse 7017 => fail) => `(tactic| first | (purse 7015 => fail) | (purse 7016 => fail))
local macro_rules | `(tactic| purse 7018 => fail) => `(tactic| repeat ((purse 7012 => fail); (purse 7017 => fail)))
local macro_rules | `(tactic| purse 7019 => fail) => `(tactic| repeat (first | exact intIn_nil | refine intIn_cons (by omega) (by omega) ?_))
local macro_rules | `(tactic| purse 7020 => fail) => `(tactic| (simp only [List.length_cons, List.length_nil]; omega))
local macro_rules | `(tactic| purse 7021 => fail) => `(tactic| (refine g_two (fun c => ?_) (fun c => ?_) <;> first | (have c := of_decide_eq_true c) | (have c := of_decide_eq_false c) | skip))
local macro_rules | `(tactic| purse 7022 => fail) => `(tactic| ((purse 7018 => fail); (purse 7012 => fail); try ((purse 7021 => fail) <;> (purse 7022 => fail))))

local macro_rules | `(tactic| purse 7001 => fail) => `(tactic| first
  | (with_reducible refine use_wholeI ?_)
  | (with_reducible refine g_pow10_9 ?_)
  | ((with_reducible refine' use_time ?a0 ?a1 ?_); (case a0 => (purse 7011 => fail)); (case a1 => (purse 7011 => fail))))

/-! ways: the law's plan -/
structure Pl (ns : List (List V)) (lg : Int) (goal : Nat) (as : List Ar) : Prop where
  ok : ∀ a ∈ as, ArOk ns a
  bd : ∀ a ∈ as, ∀ u, a.m = some u → u ≤ 2 * lg
  nd : (as.map pr).Nodup
  an : ∀ a ∈ as, a.w = "anew" → ∃ b, b ∈ as ∧ b.w ≠ "anew" ∧ b.s = a.g
  cv : ∀ j xs, 1 ≤ j → j < goal → ns[j]? = some xs → mkB xs = false → ∃ a, a ∈ as ∧ a.g = j ∧ a.s < j
section
variable {ns : List (List V)} {lg : Int} {goal : Nat} {as : List Ar} {a : Ar}
theorem Pl.nil : Pl ns lg 1 [] := ⟨fun _ h => (nomatch h), fun _ h => (nomatch h), List.nodup_nil, fun _ h => (nomatch h), fun j xs h1 h2 => by omega⟩
theorem nd_snoc (h : (as.map pr).Nodup) (new : pr a ∉ as.map pr) : ((as ++ [a]).map pr).Nodup := by
  rw [List.map_append, List.nodup_append]
  exact ⟨h, by simp, fun x hx y hy => by rw [List.mem_singleton.mp hy]; exact fun z => new (z ▸ hx)⟩
theorem Pl.add (h : Pl ns lg goal as) (ok : ArOk ns a) (bd : ∀ u, a.m = some u → u ≤ 2 * lg) (new : pr a ∉ as.map pr) (an : a.w = "anew" → ∃ b, b ∈ as ∧ b.w ≠ "anew" ∧ b.s = a.g) : Pl ns lg goal (as ++ [a]) :=
  ⟨fun b hb => (List.mem_append.mp hb).elim (h.ok b) fun z => by rw [List.mem_singleton.mp z]; exact ok, fun b hb => (List.mem_append.mp hb).elim (h.bd b) fun z => by rw [List.mem_singleton.mp z]; exact bd, nd_snoc h.nd new, fun b hb hw => by
    rcases List.mem_append.mp hb with z | z
    · obtain ⟨c, c1, c2⟩ := h.an b z hw
      exact ⟨c, List.mem_append_left _ c1, c2⟩
    · rw [List.mem_singleton.mp z] at hw ⊢
      obtain ⟨c, c1, c2⟩ := an hw
      exact ⟨c, List.mem_append_left _ c1, c2⟩, fun j xs h1 h2 h3 h4 => by
    obtain ⟨c, c1, c2⟩ := h.cv j xs h1 h2 h3 h4
    exact ⟨c, List.mem_append_left _ c1, c2⟩⟩
theorem Pl.skip (h : Pl ns lg goal as) (m : ∀ xs, ns[goal]? = some xs → mkB xs = true) : Pl ns lg (goal + 1) as :=
  ⟨h.ok, h.bd, h.nd, h.an, fun j xs h1 h2 h3 h4 => by
    by_cases e : j = goal
    · rw [e] at h3
      rw [m xs h3] at h4; cases h4
    · exact h.cv j xs h1 (by omega) h3 h4⟩
theorem Pl.put (h : Pl ns lg goal (as ++ [a])) (eg : a.g = goal) (es : a.s < goal) : Pl ns lg (goal + 1) (as ++ [a]) :=
  ⟨h.ok, h.bd, h.nd, h.an, fun j xs h1 h2 h3 h4 => by
    by_cases e : j = goal
    · exact ⟨a, List.mem_append_right _ (.head _), by omega, by omega⟩
    · exact h.cv j xs h1 (by omega) h3 h4⟩
theorem Pl.wok (h : Pl ns lg ns.length as) (n1 : 1 ≤ ns.length) (n2 : ns.length ≤ 12) (a1 : as.length ≤ 40) (dd : ∀ xs, xs ∈ ns → Dd xs) (m0 : ∃ xs, ns[0]? = some xs ∧ mkB xs = true) : WOk ns as :=
  ⟨n1, n2, a1, dd, h.ok, h.nd, h.an, fun n => by
    induction n using Nat.strongRecOn with
    | ind n ih =>
      intro lt
      have e := List.getElem?_eq_getElem lt
      cases m : mkB ns[n] with
      | true => exact .mk e m
      | false =>
        by_cases z : n = 0
        · subst z
          obtain ⟨xs, e1, e2⟩ := m0
          rw [e] at e1; cases e1
          rw [m] at e2; cases e2
        · obtain ⟨a, ha, eg, es⟩ := h.cv n _ (by omega) lt e m
          rw [← eg]
          exact .go ha (ih a.s es (by omega))⟩
end
theorem Dd.fst {xs : List V} (h : Dd xs) : ∃ w0 : Str, atI xs 0 = some (.str w0) ∧ inV (.str w0) [.str "make", .str "unpack"] = mkB xs := by
  cases h with
  | one hw => exact ⟨_, rfl, rfl⟩
  | two hw _ _ => exact ⟨_, rfl, rfl⟩
def p2 (a : Ar) : List V := [.int (a.s : Nat), .int (a.g : Nat)]
theorem p2_mem {a : Ar} {as : List Ar} : p2 a ∈ as.map p2 ↔ pr a ∈ as.map pr := by
  constructor
  · intro h
    obtain ⟨b, hb, e⟩ := List.mem_map.mp h
    injection e with e1 e2
    injection e2 with e3 _
    injection e1 with e1
    injection e3 with e3
    exact List.mem_map.mpr ⟨b, hb, by unfold pr; rw [e1, e3]⟩
  · intro h
    obtain ⟨b, hb, e⟩ := List.mem_map.mp h
    injection e with e1 e2
    injection e2 with e3 _
    exact List.mem_map.mpr ⟨b, hb, by unfold p2; rw [e1, e3]⟩
theorem p2_flat (a : Ar) : Flat (p2 a) := fun v hv => by
  unfold p2 at hv
  simp only [List.mem_cons, List.not_mem_nil, or_false] at hv
  rcases hv with rfl | rfl <;> exact .inl ⟨_, rfl⟩
theorem p2s_flat (as : List Ar) : Flats (as.map p2) := fun xs hx => by
  obtain ⟨a, _, rfl⟩ := List.mem_map.mp hx
  exact p2_flat a
theorem any_dat {xs : List V} : ∀ {xss : List (List V)}, Flat xs → Flats xss → ((xss.map datT).any fun z => PyData.eqv z (datT xs)) = decide (xs ∈ xss)
  | [], _, _ => by simp
  | ys :: r, h, h' => by
    rw [List.map_cons, List.any_cons, any_dat h fun z hz => h' z (.tail _ hz)]
    rw [show PyData.eqv (datT ys) (datT xs) = PyData.eqvAll (ys.map dat) (xs.map dat) from rfl, dats_eqv (h' ys (.head _)) h, Bool.eq_iff_iff, Bool.or_eq_true, decide_eq_true_iff, decide_eq_true_iff, decide_eq_true_iff, List.mem_cons]
    exact ⟨fun z => z.elim (fun q => .inl q.symm) .inr, fun z => z.elim (fun q => .inl q.symm) .inr⟩
theorem w3 {x : Str} (h : x ∈ (["", "held"] : List Str)) : x ∈ (["", "held", "anew"] : List Str) := by
  rcases List.mem_cons.mp h with rfl | h
  · decide
  obtain rfl := List.mem_singleton.mp h
  decide
theorem w3n {x : Str} (h : x ∈ (["", "held"] : List Str)) : ¬ x = "anew" := by
  rcases List.mem_cons.mp h with rfl | h
  · decide
  obtain rfl := List.mem_singleton.mp h
  decide
theorem shp2 (a : Ar) : SeqAt.shaped (datT (p2 a)) = true := by
  show (PyData.canLayAll0 ((p2 a).map dat) && decide (PyData.depthAll ((p2 a).map dat) + 1 ≤ 64)) = true
  have := flats_dep (p2_flat a)
  rw [flats_can (p2_flat a), decide_eq_true (by omega)]; rfl
theorem take_fil {as : List Ar} {i : Nat} {b : Ar} (p : Ar → Bool) (h : as[i]? = some b) : (as.take (i + 1)).filter p = (as.take i).filter p ++ (if p b = true then [b] else []) := by
  have e : as.take (i + 1) = as.take i ++ [b] := by rw [List.take_add_one, h]; rfl
  rw [e, List.filter_append]
  by_cases z : p b = true <;> simp [z]
def onw (a b : Ar) : Bool := decide (b.s = a.g) && !decide (b.w = "anew")
theorem v5s_flat {as : List Ar} (h : ∀ a ∈ as, a.w ∈ (["", "held", "anew"] : List Str)) : Flats (as.map v5) := fun xs hx => by
  obtain ⟨a, ha, rfl⟩ := List.mem_map.mp hx
  exact v5_flat (h a ha)
structure PlOk (ns : List (List V)) (as : List Ar) (many : Nat) (lg : Int) : Prop where
  len : ns.length = many
  ok : WOk ns as
  bd : ∀ a ∈ as, ∀ u, a.m = some u → u ≤ 2 * lg
  few : as.length ≤ 30
def spPlan : Sp := fun vs H Q _ => ∃ (s : Addr) (many : Nat) (lg bk : Int) (e : Bool), vs = [.ref s, .int (many : Nat), .int lg, .int bk, .bl e] ∧ Src H s ∧ 1 ≤ bk ∧ bk ≤ 1000000000 ∧ 1 ≤ many ∧ many ≤ 6 ∧ 1 ≤ lg ∧ lg ≤ 100000000 ∧
  ∀ r n q vs ws ns as H', UpX s H H' → Src H' s → H' r = some (.tup [.ref n, .ref q]) → H' n = some (.lst vs) → Tls H' vs ns → H' q = some (.lst ws) → Tls H' ws (as.map v5) → n ≠ s → q ≠ s → n ≠ q → H n = none → H q = none → PlOk ns as many lg → Q (.ref r) H'
theorem Pst.fresh {H0 H : Hp} {s N p : Addr} {vs : List V} {xss : List (List V)} (h : Pst H0 H s N vs xss) (hp : H p = none) : H0 p = none ∧ p ≠ s ∧ p ≠ N := by
  have e1 : p ≠ s := fun z => by
    obtain ⟨i, y, a, _⟩ := h.src
    rw [← z, hp] at a; cases a
  refine ⟨?_, e1, fun z => by rw [z, h.hN] at hp; cases hp⟩
  cases e : H0 p with
  | none => rfl
  | some o => rw [h.u _ _ e1 e] at hp; cases hp
section
open He
variable {P : Program} {w : World} {K : PySem.W.Frag} {mg : Str → Option Value} {base : Heap} {f : Addr} {fd : FuncData}
theorem ok_plan (F : FnP K "_law_plan" "_law_plan" s_law_plan f fd) (T : TWl K mg) (D_law_draw : Dn P w K mg base 2 (ga K "_law_draw") ["source", "amount"] spDraw) (D_law_maker : Dn P w K mg base 6 (ga K "_law_maker") ["source", "back"] spMaker) (D_law_user : Dn P w K mg base 6 (ga K "_law_user") ["source", "back"] spUser) (D_law_arrow : Dn P w K mg base 6 (ga K "_law_arrow") ["source", "start", "goal", "longest", "ends"] spArw) :
    FnOk P w K mg base (L2.CX P w) 8 f fd ["source", "many", "longest", "back", "ends"] spPlan := by
  refine F.ok c_law_plan (fun vs H Q E h => ?_) (fun cdv A outer s H vs Q E hr h => ⟨_, pss_cons (ps_set (i := 5) c_law_plan.nd rfl (Or.inl rfl) (pe_lst (pa_cons (pe_dn D_law_maker (rm hr) rfl T.g_law_maker (passes_call (takes_of rfl rfl rfl rfl) fun _ _ _ _ h => h) (pa_cons (pv 0) (pa_cons (pv 3) (pa_nil)))) (pa_nil))))
      (pss_cons (ps_for (passes_of rfl) rfl (pi_range2 rfl T.z_range (pa_cons (pe_int) (pa_cons (pv 1) (pa_nil)))) (pg_name (i := 6) c_law_plan.nd rfl (Or.inl rfl))
      (pss_one (ps_expr (pe_bm PySem.F.plainAttrs_list PySem.F.slot_list_append PySem.F.type_list_append mt_append (pv 5) (pa_cons (pe_ifExp (PW.pt (pw_and (pt_cmpR op_eq (pv 6) (pe_int) (nomark _)) (pw_and1 (pt_cmpR op_eq (pe_dn D_law_draw (rm hr) rfl T.g_law_draw (passes_call (takes_of rfl rfl rfl rfl) fun _ _ _ _ h => h) (pa_cons (pv 0) (pa_cons (pe_int) (pa_nil)))) (pe_int) (nomark _))))) (pe_dn D_law_maker (rm hr) rfl T.g_law_maker (passes_call (takes_of rfl rfl rfl rfl) fun _ _ _ _ h => h) (pa_cons (pv 0) (pa_cons (pv 3) (pa_nil)))) (pe_dn D_law_user (rm hr) rfl T.g_law_user (passes_call (takes_of rfl rfl rfl rfl) fun _ _ _ _ h => h) (pa_cons (pv 0) (pa_cons (pv 3) (pa_nil))))) (pa_nil))))))
      (pss_cons (ps_set (i := 7) c_law_plan.nd rfl (Or.inl rfl) (pe_lst (pa_nil)))
      (pss_cons (ps_for (passes_of rfl) rfl (pi_range2 rfl T.z_range (pa_cons (pe_int) (pa_cons (pv 1) (pa_nil)))) (pg_name (i := 8) c_law_plan.nd rfl (Or.inl rfl))
      (pss_one (ps_if (pt_cmpR op_notIn_seq (pe_ix ix_tup (pe_ix ix_list (pv 5) (pv 8) (fun _ _ => rfl)) (pe_int) (fun _ _ => rfl)) (pe_tup (pa_cons (pe_str) (pa_cons (pe_str) (pa_nil)))) (by rfl))
      (pss_one (ps_expr (pe_bm PySem.F.plainAttrs_list PySem.F.slot_list_append PySem.F.type_list_append mt_append (pv 7) (pa_cons (pe_dn D_law_arrow (rm hr) rfl T.g_law_arrow (passes_call (takes_of rfl rfl rfl rfl) fun _ _ _ _ h => h) (pa_cons (pv 0) (pa_cons (pe_dn D_law_draw (rm hr) rfl T.g_law_draw (passes_call (takes_of rfl rfl rfl rfl) fun _ _ _ _ h => h) (pa_cons (pv 0) (pa_cons (pv 8) (pa_nil)))) (pa_cons (pv 8) (pa_cons (pv 2) (pa_cons (pv 4) (pa_nil))))))) (pa_nil)))))
      (pss_nil))))
      (pss_cons (ps_for (passes_of rfl) rfl (pi_range1 rfl T.z_range (pa_cons (pe_dn D_law_draw (rm hr) rfl T.g_law_draw (passes_call (takes_of rfl rfl rfl rfl) fun _ _ _ _ h => h) (pa_cons (pv 0) (pa_cons (pe_op op_add (pe_op op_mul (pe_int) (pv 1)) (pe_int)) (pa_nil)))) (pa_nil))) (pg_name (i := 9) c_law_plan.nd rfl (Or.inl rfl))
      (pss_cons (ps_set (i := 10) c_law_plan.nd rfl (Or.inr rfl) (pe_dn D_law_arrow (rm hr) rfl T.g_law_arrow (passes_call (takes_of rfl rfl rfl rfl) fun _ _ _ _ h => h) (pa_cons (pv 0) (pa_cons (pe_dn D_law_draw (rm hr) rfl T.g_law_draw (passes_call (takes_of rfl rfl rfl rfl) fun _ _ _ _ h => h) (pa_cons (pv 0) (pa_cons (pv 1) (pa_nil)))) (pa_cons (pe_dn D_law_draw (rm hr) rfl T.g_law_draw (passes_call (takes_of rfl rfl rfl rfl) fun _ _ _ _ h => h) (pa_cons (pv 0) (pa_cons (pv 1) (pa_nil)))) (pa_cons (pv 2) (pa_cons (pv 4) (pa_nil))))))))
      (pss_cons (ps_setLc (i := 11) (own := [("other", 12)]) (g := gName 12) rfl c_law_plan.nd rfl rfl (sw_true rfl rfl rfl rfl) (pi_list (pv 7)) (blkOk_by (own := [("other", 12)]) (N := ["source", "many", "longest", "back", "ends", "nodes", "k", "arrows", "goal", "turn", "arrow", "onward", "other"]) (sc := defScope s_law_plan) (by decide +kernel)) (fun _ _ _ _ _ => pg_name (i := 12) c_law_plan.nd rfl (Or.inl rfl)) (fun _ _ _ _ _ => pts_one (PW.pt (pw_and (pt_cmpR op_eq (pe_ix (ix_tupK (K := K)) (pv 12) (pe_int) (fun _ _ => rfl)) (pe_ix (ix_tupK (K := K)) (pv 10) (pe_int) (fun _ _ => rfl)) (nomark _)) (pw_and1 (pt_cmpR op_ne (pe_ix (ix_tupK (K := K)) (pv 12) (pe_int) (fun _ _ => rfl)) (pe_str) (nomark _)))))) (fun _ _ _ _ _ => pv 12))
      (pss_cons (ps_if (pt_cmpR op_in_seq (pe_ix ix_tup (pe_ix ix_list (pv 5) (pe_ix ix_tup (pv 10) (pe_int) (fun _ _ => rfl)) (fun _ _ => rfl)) (pe_int) (fun _ _ => rfl)) (pe_tup (pa_cons (pe_str) (pa_cons (pe_str) (pa_nil)))) (by rfl))
      (pss_one (ps_set (i := 10) c_law_plan.nd rfl (Or.inr rfl) (pe_op op_catT (pe_slice sl_tup (pv 10) po_none (po_some (pe_int))) (pe_tup (pa_cons (pe_str) (pa_nil))))))
      (pss_nil))
      (pss_one (ps_if (PW.pt (pw_and (pt_cmpR (op_notInD (un65 hr)) (pe_slice sl_tup (pv 10) po_none (po_some (pe_int))) (pe_lc (own := [("other", 12)]) (g := gName 12) (tt := tYes) rfl c_law_plan.nd (pi_list (pv 7)) (blkOk_by (own := [("other", 12)]) (N := ["source", "many", "longest", "back", "ends", "nodes", "k", "arrows", "goal", "turn", "arrow", "onward", "other"]) (sc := defScope s_law_plan) (by decide +kernel)) (fun _ _ _ _ _ => pg_name (i := 12) c_law_plan.nd rfl (Or.inl rfl)) (fun _ _ _ _ _ => pts_nil) (fun _ _ _ _ _ => pe_slice (sl_tupK (K := K)) (pv 12) po_none (po_some (pe_int)))) (by rfl)) (pw_and1 (PW.pt (pw_or (pt_cmpR op_ne (pe_ix ix_tup (pv 10) (pe_int) (fun _ _ => rfl)) (pe_str) (nomark _)) (pw_or1 (pt_cmpR (op_neD hr.units) (pv 11) (pe_lst (pa_nil)) (nomark _))))))))
      (pss_one (ps_expr (pe_bm PySem.F.plainAttrs_list PySem.F.slot_list_append PySem.F.type_list_append mt_append (pv 7) (pa_cons (pv 10) (pa_nil)))))
      (pss_nil)))))))
      (pss_one (ps_ret (pe_tup (pa_cons (pv 5) (pa_cons (pv 7) (pa_nil)))))))))), ?_⟩)
  · obtain ⟨s, many, lg, bk, e, rfl, _⟩ := h
    rfl
  · obtain ⟨s', many, lg, bk, e, rfl, hs, bk1, bk2, m1, m2, l1, l2, k⟩ := h
    (purse 7012 => fail)
    refine ⟨s', bk, rfl, hs, by omega, by omega, fun t0 xs0 H1 u1 hs1 ht0 dd0 mk0 => ?_⟩
    (purse 7012 => fail)
    refine g_l0 (by rfl) fun N hN => ?_
    have P0 : Pst H (upd H1 N (.lst [.ref t0])) s' N [.ref t0] [xs0] := by
      have ne : N ≠ s' := fun z => by
        obtain ⟨i, y, a, _⟩ := hs1
        rw [← z, hN] at a; cases a
      have nN : H N = none := by
        cases e : H N with
        | none => rfl
        | some o => rw [u1 _ _ ne e] at hN; cases hN
      exact ⟨u1.setF nN, hs1.set ne, upd_same, .one ((Up.new hN) _ _ ht0), nN, ne⟩
    generalize upd H1 N (.lst [.ref t0]) = H2 at P0 ⊢
    (purse 7012 => fail)
    refine g_kR2 (by omega) (by omega) (by omega) (by omega) ?_
    refine g_loop2 (fun i σ' H' => ∃ (o6 : Option V) (vs : List V) (ns : List (List V)), σ' = [some (.ref s'), some (.int (many : Nat)), some (.int lg), some (.int bk), some (.bl e), some (.ref N), o6, none, none, none, none, none, none] ∧ Pst H H' s' N vs ns ∧ ns.length = i + 1 ∧ (∀ xs, xs ∈ ns → Dd xs) ∧ ∃ xs, ns[0]? = some xs ∧ mkB xs = true) ⟨none, _, _, rfl, P0, rfl, fun xs hx => by rw [List.mem_singleton.mp hx]; exact dd0, xs0, rfl, mk0⟩ ?_ ?_
    · rintro i σ' H' hi ⟨o6, vs, ns, rfl, P, nl, dd, x0, e0, em0⟩
      have vl := P.tl.len
      (purse 7012 => fail)
      refine g_bmL P.hN ?_
      (purse 7012 => fail)
      have fin : ∀ (t : Addr) (xs : List V) (H3 : Hp), Pst H H3 s' N vs ns → H3 t = some (.tup xs) → Dd xs → ∃ (o6 : Option V) (vs' : List V) (ns' : List (List V)), [some (.ref s'), some (.int (many : Nat)), some (.int lg), some (.int bk), some (.bl e), some (.ref N), some (.int (1 + (i : Int))), none, none, none, none, none, none] = [some (.ref s'), some (.int (many : Nat)), some (.int lg), some (.int bk), some (.bl e), some (.ref N), o6, none, none, none, none, none, none] ∧ Pst H (upd H3 N (.lst (vs ++ [.ref t]))) s' N vs' ns' ∧ ns'.length = i + 1 + 1 ∧ (∀ xs, xs ∈ ns' → Dd xs) ∧ ∃ xs, ns'[0]? = some xs ∧ mkB xs = true := fun t xs H3 P3 ht d =>
        ⟨_, _, _, rfl, P3.app ht, by rw [List.length_append, nl]; rfl, fun ys hy => (List.mem_append.mp hy).elim (dd ys) fun z => by rw [List.mem_singleton.mp z]; exact d, x0, by rw [List.getElem?_append_left (by omega)]; exact e0, em0⟩
      by_cases ei : i = 1
      · (purse 7015 => fail)
        (purse 7012 => fail)
        refine use_drawX P.src (by omega) (by omega) fun d H3 d0 d1 u3 hs3 => ?_
        have P3 := P.dr u3 hs3
        (purse 7012 => fail)
        refine g_two (fun c => ?_) (fun c => ?_)
        · (purse 7012 => fail)
          refine ⟨s', bk, rfl, hs3, by omega, by omega, fun t xs H4 u4 hs4 ht d mk => ?_⟩
          (purse 7012 => fail)
          refine g_apE (P3.dr u4 hs4).hN (by omega) ?_
          (purse 7012 => fail)
          exact fin t xs H4 (P3.dr u4 hs4) ht d
        · (purse 7012 => fail)
          refine ⟨s', bk, rfl, hs3, by omega, by omega, fun t xs H4 u4 hs4 ht d mk => ?_⟩
          (purse 7012 => fail)
          refine g_apE (P3.dr u4 hs4).hN (by omega) ?_
          (purse 7012 => fail)
          exact fin t xs H4 (P3.dr u4 hs4) ht d
      · (purse 7016 => fail)
        (purse 7016 => fail)
        (purse 7012 => fail)
        refine ⟨s', bk, rfl, P.src, by omega, by omega, fun t xs H4 u4 hs4 ht d mk => ?_⟩
        (purse 7012 => fail)
        refine g_apE (P.dr u4 hs4).hN (by omega) ?_
        (purse 7012 => fail)
        exact fin t xs H4 (P.dr u4 hs4) ht d
    rintro σ2 H3 ⟨o6, vs, ns, rfl, PN, nl, dd, m0⟩
    have nl' : ns.length = many := by omega
    have vl := PN.tl.len
    (purse 7012 => fail)
    refine g_l0 (by rfl) fun A' hA => ?_
    obtain ⟨fA, neA, nAN⟩ := PN.fresh hA
    have PA : Pst H (upd H3 A' (.lst [])) s' A' [] (([] : List Ar).map v5) := ⟨PN.u.setF fA, PN.src.set neA, upd_same, .nil, fA, neA⟩
    have NN : Nst (upd H3 A' (.lst [])) N vs ns := ⟨by rw [upd_ne (Ne.symm nAN)]; exact PN.hN, PN.tl.up (Up.new hA)⟩
    have nN := PN.nN
    have neN := PN.ne
    generalize upd H3 A' (.lst []) = H4 at PA NN ⊢
    (purse 7012 => fail)
    refine g_kR2 (by omega) (by omega) (by omega) (by omega) ?_
    refine g_loop2 (fun i σ' H' => ∃ (o8 : Option V) (ws : List V) (as : List Ar), σ' = [some (.ref s'), some (.int (many : Nat)), some (.int lg), some (.int bk), some (.bl e), some (.ref N), o6, some (.ref A'), o8, none, none, none, none] ∧ Pst H H' s' A' ws (as.map v5) ∧ Nst H' N vs ns ∧ Pl ns lg (i + 1) as ∧ (∀ a ∈ as, a.g < i + 1) ∧ as.length ≤ i) ⟨none, _, [], rfl, PA, NN, .nil, fun _ h => (nomatch h), Nat.le_refl _⟩ ?_ ?_
    · rintro i σ' H' hi ⟨o8, ws, as, rfl, P, Nn, pl, lt, al⟩
      have wl := P.tl.len
      rw [List.length_map] at wl
      rw [show (1 : Int) + (i : Int) = ((i + 1 : Nat) : Int) by omega]
      have hil : i + 1 < ns.length := by omega
      obtain ⟨t, et, ht⟩ := Nn.t.at_ (List.getElem?_eq_getElem hil)
      obtain ⟨w0, ew, em⟩ := (dd _ (List.getElem_mem hil)).fst
      (purse 7012 => fail)
      refine g_ixQ (SqL.of Nn.h) (ai_nat et) ?_
      (purse 7012 => fail)
      refine g_ixT ht ew ?_
      (purse 7012 => fail)
      refine g_t0 (by rfl) fun px hpx => ?_
      refine g_ninT (r := mkB ns[i + 1]) upd_same rfl rfl em ?_
      have ux := Up.new (o := .tup [.str "make", .str "unpack"]) hpx
      generalize upd H' px (.tup [.str "make", .str "unpack"]) = H5 at ux ⊢
      have P5 := P.up ux
      have N5 := Nn.up ux
      (purse 7012 => fail)
      cases mm : mkB ns[i + 1] with
      | true =>
        (purse 7016 => fail)
        (purse 7012 => fail)
        exact ⟨_, ws, as, rfl, P5, N5, pl.skip fun xs hx => by rw [List.getElem?_eq_getElem hil] at hx; cases hx; exact mm, fun a ha => Nat.lt_succ_of_lt (lt a ha), by omega⟩
      | false =>
        (purse 7015 => fail)
        (purse 7012 => fail)
        refine g_bmL P5.hN ?_
        (purse 7012 => fail)
        refine use_drawX P5.src (by omega) (by omega) fun d H6 d0 d1 u6 hs6 => ?_
        obtain ⟨dn, rfl⟩ : ∃ dn : Nat, d = (dn : Int) := ⟨d.toNat, by omega⟩
        have P6 := P5.dr u6 hs6
        have N6 := N5.upX u6 neN P5.src.notup
        (purse 7012 => fail)
        refine ⟨s', dn, i + 1, lg, e, rfl, hs6, l1, l2, fun ta a H7 u7 hs7 hta es eg dr => ?_⟩
        have P7 := P6.dr u7 hs7
        have N7 := N6.upX u7 neN P6.src.notup
        have hmm : ∀ u, a.m = some u → a.l ≤ u ∧ u ≤ 1000000000 := fun u hu => by
          have := dr.hm u hu
          omega
        have ok : ArOk ns a := ⟨by omega, by omega, dr.h1, by have := dr.h2; omega, hmm, w3 dr.hw, fun xs hx => by
          rw [eg, List.getElem?_eq_getElem hil] at hx; cases hx
          rw [mm, decide_eq_false (w3n dr.hw)]⟩
        (purse 7012 => fail)
        refine g_apE P7.hN (by omega) ?_
        (purse 7012 => fail)
        have P8 := P7.app hta
        have new : pr a ∉ as.map pr := fun z => by
          obtain ⟨b, hb, eb⟩ := List.mem_map.mp z
          unfold pr at eb
          simp only [List.cons.injEq, and_true] at eb
          have := lt b hb
          omega
        have pl2 := (pl.add ok (fun u hu => (dr.hm u hu).2) new fun z => absurd z (w3n dr.hw)).put eg (by omega)
        exact ⟨_, _, as ++ [a], rfl, by rw [List.map_append]; exact P8, N7.lst (Ne.symm nAN) P7.hN, pl2, fun b hb => (List.mem_append.mp hb).elim (fun z => Nat.lt_succ_of_lt (lt b z)) fun z => by rw [List.mem_singleton.mp z, eg]; omega, by rw [List.length_append, List.length_singleton]; omega⟩
    rintro σ5 H5 ⟨o8, ws, as, rfl, P5, N5, pl5, lt5, al5⟩
    rw [show ((many : Int) - 1).toNat + 1 = many by omega] at pl5
    (purse 7012 => fail)
    refine use_drawX P5.src (by omega) (by omega) fun d H6 d0 d1 u6 hs6 => ?_
    obtain ⟨dn, rfl⟩ : ∃ dn : Nat, d = (dn : Int) := ⟨d.toNat, by omega⟩
    have P6 := P5.dr u6 hs6
    have N6 := N5.upX u6 neN P5.src.notup
    (purse 7012 => fail)
    rw [Int.toNat_natCast]
    refine g_loop (fun i σ' H' => ∃ (o9 o10 o11 : Option V) (ws : List V) (as : List Ar), σ' = [some (.ref s'), some (.int (many : Nat)), some (.int lg), some (.int bk), some (.bl e), some (.ref N), o6, some (.ref A'), o8, o9, o10, o11, none] ∧ Pst H H' s' A' ws (as.map v5) ∧ Nst H' N vs ns ∧ Pl ns lg many as ∧ as.length ≤ 6 + i) ⟨none, none, none, _, as, rfl, P6, N6, pl5, by omega⟩ ?_ ?_
    · rintro i σ' H7 hi ⟨o9, o10, o11, ws, as, rfl, P, Nn, pl, al⟩
      have wl := P.tl.len
      rw [List.length_map] at wl
      (purse 7012 => fail)
      refine use_drawX P.src (by omega) (by omega) fun d H8 d0 d1 u8 hs8 => ?_
      obtain ⟨ds, rfl⟩ : ∃ dn : Nat, d = (dn : Int) := ⟨d.toNat, by omega⟩
      have P8 := P.dr u8 hs8
      have N8 := Nn.upX u8 neN P.src.notup
      (purse 7012 => fail)
      refine use_drawX P8.src (by omega) (by omega) fun d H9 d20 d21 u9 hs9 => ?_
      obtain ⟨dg, rfl⟩ : ∃ dn : Nat, d = (dn : Int) := ⟨d.toNat, by omega⟩
      have P9 := P8.dr u9 hs9
      have N9 := N8.upX u9 neN P8.src.notup
      (purse 7012 => fail)
      refine ⟨s', ds, dg, lg, e, rfl, hs9, l1, l2, fun ta a Ha ua hsa hta es eg dr => ?_⟩
      have Pa := P9.dr ua hsa
      have Na := N9.upX ua neN P9.src.notup
      have hgl : a.g < ns.length := by omega
      obtain ⟨t, et, ht⟩ := Na.t.at_ (List.getElem?_eq_getElem hgl)
      obtain ⟨w0, ew, em⟩ := (dd _ (List.getElem_mem hgl)).fst
      have hmm : ∀ u, a.m = some u → a.l ≤ u ∧ u ≤ 1000000000 := fun u hu => by
        have := dr.hm u hu
        omega
      have hl2 := dr.h2
      (purse 7012 => fail)
      refine g_lcLA (K := K) (xs := ws) (fun _ => False) (fun i acc H' => Up Ha H' ∧ Tls Ha acc (((as.take i).filter (onw a)).map v5)) (fun _ z => z.elim) (by omega) ⟨Up.rfl', .nil⟩ (fun i acc H' p o hp h => ⟨Up.setF h.1 hp, h.2⟩) (fun i acc H' h => SqL.of (h.1 _ _ Pa.hN)) (fun ii acc H' x hx hG R NN0 hR hN => ⟨rfl, ?_⟩) fun D acc Hb hD hG hL hacc => ?_
      · obtain ⟨uH, tls⟩ := hG
        obtain ⟨q, b, rfl, hb, hq0⟩ := Tls.getA Pa.tl hx
        have hq := uH _ _ hq0
        have ef := take_fil (onw a) hb
        rw [show (List.set (wipe [some (V.ref s'), some (V.int (many : Nat)), some (V.int lg), some (V.int bk), some (V.bl e), some (V.ref N), o6, some (V.ref A'), o8, some (V.int (i : Nat)), some (V.ref ta), o11, none] (List.map (fun x => x.snd) [(Str.ofString "other", 12)])) 12 (some (V.ref q))) = [some (V.ref s'), some (V.int (many : Nat)), some (V.int lg), some (V.int bk), some (V.bl e), some (V.ref N), o6, some (V.ref A'), o8, some (V.int (i : Nat)), some (V.ref ta), o11, some (V.ref q)] from rfl]
        (purse 7012 => fail)
        refine g_ixT hq rfl ?_
        (purse 7012 => fail)
        refine g_ixT (uH _ _ hta) rfl ?_
        (purse 7012 => fail)
        by_cases e1 : b.s = a.g
        · rw [decide_eq_true (show ((b.s : Nat) : Int) = (a.g : Nat) by omega)]
          (purse 7015 => fail)
          (purse 7012 => fail)
          refine g_ixT hq rfl ?_
          (purse 7012 => fail)
          refine g_neS rfl ?_
          rw [dec_strE]
          (purse 7012 => fail)
          by_cases e2 : b.w = "anew"
          · rw [decide_eq_true e2]
            (purse 7016 => fail)
            rw [if_neg (by unfold onw; rw [decide_eq_true e2]; simp), List.append_nil] at ef
            exact hN H' UpS.rfl' ⟨uH, by rw [ef]; exact tls⟩
          · rw [decide_eq_false e2]
            (purse 7015 => fail)
            (purse 7012 => fail)
            rw [if_pos (by unfold onw; rw [decide_eq_true e1, decide_eq_false e2]; rfl)] at ef
            exact hR _ H' UpS.rfl' ⟨uH, by rw [ef, List.map_append]; exact tls.append (.one hq0)⟩
        · rw [decide_eq_false (show ¬ ((b.s : Nat) : Int) = (a.g : Nat) by omega)]
          (purse 7016 => fail)
          (purse 7016 => fail)
          rw [if_neg (by unfold onw; rw [decide_eq_false e1]; simp), List.append_nil] at ef
          exact hN H' UpS.rfl' ⟨uH, by rw [ef]; exact tls⟩
      obtain ⟨ub, tls⟩ := hG
      rw [wl, List.take_length] at tls
      have Pb := Pa.up ub
      have Nb := Na.up ub
      have htb := ub _ _ ht
      have htab := ub _ _ hta
      have tlsb := tls.up ub
      (purse 7012 => fail)
      refine g_ixT htab rfl ?_
      (purse 7012 => fail)
      refine g_ixQ (SqL.of Nb.h) (ai_nat et) ?_
      (purse 7012 => fail)
      refine g_ixT htb ew ?_
      (purse 7012 => fail)
      refine g_t0 (by rfl) fun px hpx => ?_
      refine g_inT (r := mkB ns[a.g]) upd_same rfl rfl em ?_
      have ux := Up.new (o := .tup [.str "make", .str "unpack"]) hpx
      generalize upd Hb px (.tup [.str "make", .str "unpack"]) = Hc at ux ⊢
      have Pc := Pb.up ux
      have Nc := Nb.up ux
      have htac := ux _ _ htab
      have tlsc := tlsb.up ux
      have hLc := ux _ _ hL
      (purse 7012 => fail)
      cases mm : mkB ns[a.g] with
      | true =>
        (purse 7015 => fail)
        (purse 7012 => fail)
        refine g_slN (K := K) htac (n := 4) (by show 4 < 5; decide) fun pf hpf => ?_
        have uf := Up.new (o := .tup ((v5 a).take 4)) hpf
        have hf : upd Hc pf (.tup ((v5 a).take 4)) pf = some (.tup (v4 a)) := upd_same
        generalize upd Hc pf (.tup ((v5 a).take 4)) = Hd at uf hf ⊢
        (purse 7012 => fail)
        refine g_t0 (by rfl) fun pg hpg => ?_
        have ug := Up.new (o := .tup [.str "anew"]) hpg
        have hg' : upd Hd pg (.tup [.str "anew"]) pg = some (.tup [.str "anew"]) := upd_same
        have hfg := ug _ _ hf
        generalize upd Hd pg (.tup [.str "anew"]) = He' at ug hg' hfg ⊢
        refine g_catT (K := K) hfg hg' (by simp [v4]) (by simp) (by show 4 + 1 ≤ 1000; decide) fun ph hph => ?_
        have uh := Up.new (o := .tup (v4 a ++ [.str "anew"])) hph
        have hh : upd He' ph (.tup (v4 a ++ [.str "anew"])) ph = some (.tup (v5 { a with w := "anew" })) := upd_same
        generalize upd He' ph (.tup (v4 a ++ [.str "anew"])) = Hg at uh hh ⊢
        have ucg := (uf.trans ug).trans uh
        have okA : ArOk ns { a with w := "anew" } := ⟨by show a.s < _; omega, hgl, dr.h1, by show a.l ≤ _; omega, hmm, (by show ("anew" : Str) ∈ _; decide), fun xs hx => by
          have hx' : ns[a.g]? = some xs := hx
          rw [List.getElem?_eq_getElem hgl] at hx'; cases hx'
          rw [mm]; exact (decide_eq_true rfl).symm⟩
        have a1e : ({ a with w := "anew" } : Ar).g = a.g := rfl
        have bdA : ∀ u, ({ a with w := "anew" } : Ar).m = some u → u ≤ 2 * lg := fun u hu => (dr.hm u hu).2
        generalize ea : ({ a with w := "anew" } : Ar) = a' at hh okA a1e bdA
        have Pg := Pc.up ucg
        have Ng := Nc.up ucg
        have tlsg := tlsc.up ucg
        have hLg := ucg _ _ hLc
        (purse 7012 => fail)
        refine g_slN (K := K) hh (n := 2) (by show 2 < 5; decide) fun pi hpi => ?_
        have ui := Up.new (o := .tup ((v5 a').take 2)) hpi
        have hi' : upd Hg pi (.tup ((v5 a').take 2)) pi = some (.tup (p2 a')) := upd_same
        generalize upd Hg pi (.tup ((v5 a').take 2)) = Hi at ui hi' ⊢
        have Pi' := Pg.up ui
        (purse 7012 => fail)
        refine g_lcLD (K := K) (xs := ws) (fun _ => False) (fun D i acc H' => Up Hi H' ∧ Tls H' acc ((as.take i).map p2)) (fun _ z => z.elim) (by omega) (SqL.of Pi'.hN) (fun D hD => ⟨Up.new hD, .nil⟩) (fun D i acc H' ys zs hD hd h => ⟨Up.setF h.1 hD, h.2.lstAt hd⟩) (fun D i acc H' h => SqL.of (h.1 _ _ Pi'.hN)) (fun Dz i0' acc H' x hD hd hx hG R NN0 hR hN => ⟨rfl, ?_⟩) fun D2 acc2 Hj hD2 hG2 hL2 hacc2 => ?_
        · obtain ⟨uH, tl2⟩ := hG
          obtain ⟨q, b, rfl, hb, hq⟩ := Tls.getA (Pi'.tl.up uH) hx
          refine g_tYes ?_
          rw [show (List.set (wipe [some (V.ref s'), some (V.int (many : Nat)), some (V.int lg), some (V.int bk), some (V.bl e), some (V.ref N), o6, some (V.ref A'), o8, some (V.int (i : Nat)), some (V.ref ph), some (V.ref D), none] (List.map (fun x => x.snd) [(Str.ofString "other", 12)])) 12 (some (V.ref q))) = [some (V.ref s'), some (V.int (many : Nat)), some (V.int lg), some (V.int bk), some (V.bl e), some (V.ref N), o6, some (V.ref A'), o8, some (V.int (i : Nat)), some (V.ref ph), some (V.ref D), some (V.ref q)] from rfl]
          (purse 7012 => fail)
          refine g_slN (K := K) hq (n := 2) (by show 2 < 5; decide) fun pk hpk => ?_
          refine hR _ _ (Up.new hpk).toS ⟨uH.trans (Up.new hpk), ?_⟩
          have e : (as.take (i0' + 1)).map p2 = (as.take i0').map p2 ++ [p2 b] := by rw [List.take_add_one, hb, List.map_append]; rfl
          rw [e]
          exact (tl2.up (Up.new hpk)).append (.one upd_same)
        obtain ⟨uj, tl2⟩ := hG2
        rw [wl, List.take_length] at tl2
        have Pj := Pi'.up uj
        have uij := ui.trans uj
        have Nj := Ng.up uij
        refine ⟨datT (p2 a'), (as.map p2).map datT, .tup (SqT.of (uj _ _ hi')) (flats_dp (p2_flat _)), .lst (SqL.of hL2) (tls_dp tl2 (p2s_flat _)), ?_, shL (p2s_flat _), ?_⟩
        · exact shp2 a'
        rw [any_dat (p2_flat _) (p2s_flat _)]
        (purse 7012 => fail)
        by_cases m : pr a' ∈ as.map pr
        · rw [decide_eq_true (p2_mem.mpr m)]
          (purse 7016 => fail)
          (purse 7016 => fail)
          (purse 7012 => fail)
          exact ⟨_, _, _, ws, as, rfl, Pj, Nj, pl, by omega⟩
        · rw [decide_eq_false (fun z => m (p2_mem.mp z))]
          (purse 7015 => fail)
          (purse 7012 => fail)
          refine g_ixT (uij _ _ hh) rfl ?_
          (purse 7012 => fail)
          refine g_neS rfl ?_
          rw [dec_strE]
          (purse 7012 => fail)
          have fin : ∀ (Q' : Hp → Prop), (a'.w = "anew" → ∃ b, b ∈ as ∧ b.w ≠ "anew" ∧ b.s = a'.g) → Pl ns lg many (as ++ [a']) := fun _ z => pl.add okA bdA m z
          by_cases ew2 : a'.w = "anew"
          · rw [decide_eq_true ew2]
            (purse 7016 => fail)
            (purse 7012 => fail)
            refine g_l0 (by rfl) fun pe hpe => ?_
            have ue := Up.new (o := .lst []) hpe
            have he : upd Hj pe (.lst []) pe = some (.lst []) := upd_same
            generalize upd Hj pe (.lst []) = Hk at ue he ⊢
            have uik := uij.trans ue
            have fl : Flats ((as.filter (onw a)).map v5) := v5s_flat fun b hb => (pl.ok b (List.mem_filter.mp hb).1).hw
            refine g_neLL (K := K) (uik _ _ hLg) (tlsg.up uik) he .nil fl (fun _ h => (nomatch h)) ?_
            (purse 7012 => fail)
            by_cases em2 : (as.filter (onw a)).map v5 = []
            · rw [decide_eq_true em2]
              (purse 7016 => fail)
              (purse 7012 => fail)
              exact ⟨_, _, _, ws, as, rfl, Pj.up ue, Nj.up ue, pl, by omega⟩
            · rw [decide_eq_false em2]
              (purse 7015 => fail)
              (purse 7012 => fail)
              have Pk := Pj.up ue
              refine g_bmL Pk.hN ?_
              (purse 7012 => fail)
              refine g_apE Pk.hN (by omega) ?_
              (purse 7012 => fail)
              have an : ∃ b, b ∈ as ∧ b.w ≠ "anew" ∧ b.s = a'.g := by
                cases hf : as.filter (onw a) with
                | nil => rw [hf] at em2; exact absurd rfl em2
                | cons b r =>
                  have hb : b ∈ as.filter (onw a) := by rw [hf]; exact .head _
                  obtain ⟨b1, b2⟩ := List.mem_filter.mp hb
                  unfold onw at b2
                  simp only [Bool.and_eq_true, decide_eq_true_eq, Bool.not_eq_true', decide_eq_false_iff_not] at b2
                  exact ⟨b, b1, b2.2, b2.1.trans a1e.symm⟩
              exact ⟨_, _, _, _, as ++ [a'], rfl, by rw [List.map_append]; exact Pk.app (uik _ _ hh), (Nj.up ue).lst (Ne.symm nAN) Pk.hN, fin (fun _ => True) fun _ => an, by rw [List.length_append, List.length_singleton]; omega⟩
          · rw [decide_eq_false ew2]
            (purse 7015 => fail)
            (purse 7015 => fail)
            (purse 7012 => fail)
            refine g_bmL Pj.hN ?_
            (purse 7012 => fail)
            refine g_apE Pj.hN (by omega) ?_
            (purse 7012 => fail)
            exact ⟨_, _, _, _, as ++ [a'], rfl, by rw [List.map_append]; exact Pj.app (uij _ _ hh), Nj.lst (Ne.symm nAN) Pj.hN, fin (fun _ => True) fun z => absurd z ew2, by rw [List.length_append, List.length_singleton]; omega⟩
      | false =>
        (purse 7016 => fail)
        (purse 7012 => fail)
        have ucg : Up Hc Hc := Up.rfl'
        have hh := htac
        have okA : ArOk ns a := ⟨by omega, by omega, dr.h1, by omega, hmm, w3 dr.hw, fun xs hx => by
          rw [List.getElem?_eq_getElem hgl] at hx; cases hx
          rw [mm, decide_eq_false (w3n dr.hw)]⟩
        have a1e : a.g = a.g := rfl
        have bdA : ∀ u, a.m = some u → u ≤ 2 * lg := fun u hu => (dr.hm u hu).2
        have Pg := Pc.up ucg
        have Ng := Nc.up ucg
        have tlsg := tlsc.up ucg
        have hLg := ucg _ _ hLc
        (purse 7012 => fail)
        refine g_slN (K := K) hh (n := 2) (by show 2 < 5; decide) fun pi hpi => ?_
        have ui := Up.new (o := .tup ((v5 a).take 2)) hpi
        have hi' : upd Hc pi (.tup ((v5 a).take 2)) pi = some (.tup (p2 a)) := upd_same
        generalize upd Hc pi (.tup ((v5 a).take 2)) = Hi at ui hi' ⊢
        have Pi' := Pg.up ui
        (purse 7012 => fail)
        refine g_lcLD (K := K) (xs := ws) (fun _ => False) (fun D i acc H' => Up Hi H' ∧ Tls H' acc ((as.take i).map p2)) (fun _ z => z.elim) (by omega) (SqL.of Pi'.hN) (fun D hD => ⟨Up.new hD, .nil⟩) (fun D i acc H' ys zs hD hd h => ⟨Up.setF h.1 hD, h.2.lstAt hd⟩) (fun D i acc H' h => SqL.of (h.1 _ _ Pi'.hN)) (fun Dz i0' acc H' x hD hd hx hG R NN0 hR hN => ⟨rfl, ?_⟩) fun D2 acc2 Hj hD2 hG2 hL2 hacc2 => ?_
        · obtain ⟨uH, tl2⟩ := hG
          obtain ⟨q, b, rfl, hb, hq⟩ := Tls.getA (Pi'.tl.up uH) hx
          refine g_tYes ?_
          rw [show (List.set (wipe [some (V.ref s'), some (V.int (many : Nat)), some (V.int lg), some (V.int bk), some (V.bl e), some (V.ref N), o6, some (V.ref A'), o8, some (V.int (i : Nat)), some (V.ref ta), some (V.ref D), none] (List.map (fun x => x.snd) [(Str.ofString "other", 12)])) 12 (some (V.ref q))) = [some (V.ref s'), some (V.int (many : Nat)), some (V.int lg), some (V.int bk), some (V.bl e), some (V.ref N), o6, some (V.ref A'), o8, some (V.int (i : Nat)), some (V.ref ta), some (V.ref D), some (V.ref q)] from rfl]
          (purse 7012 => fail)
          refine g_slN (K := K) hq (n := 2) (by show 2 < 5; decide) fun pk hpk => ?_
          refine hR _ _ (Up.new hpk).toS ⟨uH.trans (Up.new hpk), ?_⟩
          have e : (as.take (i0' + 1)).map p2 = (as.take i0').map p2 ++ [p2 b] := by rw [List.take_add_one, hb, List.map_append]; rfl
          rw [e]
          exact (tl2.up (Up.new hpk)).append (.one upd_same)
        obtain ⟨uj, tl2⟩ := hG2
        rw [wl, List.take_length] at tl2
        have Pj := Pi'.up uj
        have uij := ui.trans uj
        have Nj := Ng.up uij
        refine ⟨datT (p2 a), (as.map p2).map datT, .tup (SqT.of (uj _ _ hi')) (flats_dp (p2_flat _)), .lst (SqL.of hL2) (tls_dp tl2 (p2s_flat _)), ?_, shL (p2s_flat _), ?_⟩
        · exact shp2 a
        rw [any_dat (p2_flat _) (p2s_flat _)]
        (purse 7012 => fail)
        by_cases m : pr a ∈ as.map pr
        · rw [decide_eq_true (p2_mem.mpr m)]
          (purse 7016 => fail)
          (purse 7016 => fail)
          (purse 7012 => fail)
          exact ⟨_, _, _, ws, as, rfl, Pj, Nj, pl, by omega⟩
        · rw [decide_eq_false (fun z => m (p2_mem.mp z))]
          (purse 7015 => fail)
          (purse 7012 => fail)
          refine g_ixT (uij _ _ hh) rfl ?_
          (purse 7012 => fail)
          refine g_neS rfl ?_
          rw [dec_strE]
          (purse 7012 => fail)
          have fin : ∀ (Q' : Hp → Prop), (a.w = "anew" → ∃ b, b ∈ as ∧ b.w ≠ "anew" ∧ b.s = a.g) → Pl ns lg many (as ++ [a]) := fun _ z => pl.add okA bdA m z
          by_cases ew2 : a.w = "anew"
          · rw [decide_eq_true ew2]
            (purse 7016 => fail)
            (purse 7012 => fail)
            refine g_l0 (by rfl) fun pe hpe => ?_
            have ue := Up.new (o := .lst []) hpe
            have he : upd Hj pe (.lst []) pe = some (.lst []) := upd_same
            generalize upd Hj pe (.lst []) = Hk at ue he ⊢
            have uik := uij.trans ue
            have fl : Flats ((as.filter (onw a)).map v5) := v5s_flat fun b hb => (pl.ok b (List.mem_filter.mp hb).1).hw
            refine g_neLL (K := K) (uik _ _ hLg) (tlsg.up uik) he .nil fl (fun _ h => (nomatch h)) ?_
            (purse 7012 => fail)
            by_cases em2 : (as.filter (onw a)).map v5 = []
            · rw [decide_eq_true em2]
              (purse 7016 => fail)
              (purse 7012 => fail)
              exact ⟨_, _, _, ws, as, rfl, Pj.up ue, Nj.up ue, pl, by omega⟩
            · rw [decide_eq_false em2]
              (purse 7015 => fail)
              (purse 7012 => fail)
              have Pk := Pj.up ue
              refine g_bmL Pk.hN ?_
              (purse 7012 => fail)
              refine g_apE Pk.hN (by omega) ?_
              (purse 7012 => fail)
              have an : ∃ b, b ∈ as ∧ b.w ≠ "anew" ∧ b.s = a.g := by
                cases hf : as.filter (onw a) with
                | nil => rw [hf] at em2; exact absurd rfl em2
                | cons b r =>
                  have hb : b ∈ as.filter (onw a) := by rw [hf]; exact .head _
                  obtain ⟨b1, b2⟩ := List.mem_filter.mp hb
                  unfold onw at b2
                  simp only [Bool.and_eq_true, decide_eq_true_eq, Bool.not_eq_true', decide_eq_false_iff_not] at b2
                  exact ⟨b, b1, b2.2, b2.1.trans a1e.symm⟩
              exact ⟨_, _, _, _, as ++ [a], rfl, by rw [List.map_append]; exact Pk.app (uik _ _ hh), (Nj.up ue).lst (Ne.symm nAN) Pk.hN, fin (fun _ => True) fun _ => an, by rw [List.length_append, List.length_singleton]; omega⟩
          · rw [decide_eq_false ew2]
            (purse 7015 => fail)
            (purse 7015 => fail)
            (purse 7012 => fail)
            refine g_bmL Pj.hN ?_
            (purse 7012 => fail)
            refine g_apE Pj.hN (by omega) ?_
            (purse 7012 => fail)
            exact ⟨_, _, _, _, as ++ [a], rfl, by rw [List.map_append]; exact Pj.app (uij _ _ hh), Nj.lst (Ne.symm nAN) Pj.hN, fin (fun _ => True) fun z => absurd z ew2, by rw [List.length_append, List.length_singleton]; omega⟩
    rintro σ7 H7 ⟨o9, o10, o11, ws, as, rfl, P, Nn, pl, al⟩
    (purse 7012 => fail)
    refine g_t0 (by rfl) fun pr' hpr => ?_
    have ur := Up.new (o := .tup [.ref N, .ref A']) hpr
    have Pr' := P.up ur
    have Nr := Nn.up ur
    exact k pr' N A' vs ws ns as _ Pr'.u Pr'.src upd_same Nr.h Nr.t Pr'.hN Pr'.tl neN neA (Ne.symm nAN) nN fA ⟨nl', (nl' ▸ pl : Pl ns lg ns.length as).wok (by omega) (by omega) (by omega) dd m0, pl.bd, by omega⟩
end

end KW
namespace KW
open PySem PySem.Spec PyProof.Rows L2 AF
open K1
open C8 (pe_gc)
local macro_rules | `(tactic| purse 7003 => fail) => `(tactic| k_dflt (refine Sh.has_ (by assumption) ?_; repeat (first | exact On.here | apply On.next)))
local macro_rules | `(tactic| purse 7004 => fail) => `(tactic| k_dflt (repeat (first | exact On.here | apply On.next)))
local macro_rules | `(tactic| purse 7005 => fail) => `(tactic| (repeat (first | exact Rep.here | apply Rep.next)))
local macro_rules | `(tactic| purse 7006 => fail) => `(tactic| (exact Sh.out (by assumption) (fun b h => by simp [h])))
local macro_rules | `(tactic| purse 7007 => fail) => `(tactic| k_dflt (first | ((with_reducible refine cdivw ?_ ?_) <;> omega) | ((with_reducible show CDiv _ _); constructor <;> omega) | ((with_reducible show CMul _ _); (first | (left; constructor <;> omega) | (right; constructor <;> omega))) | (show (0 : Int) < _; omega)))
local macro_rules | `(tactic| purse 7008 => fail) => `(tactic| first | exact Kd.int _ | exact Kd.bl _ | exact Kd.non | exact Kd.str _ | exact Kd.ins (by (purse 7003 => fail)) | exact Kd.lst (by (purse 7003 => fail)) | exact Kd.tup (by (purse 7003 => fail)))
local macro_rules | `(tactic| purse 7009 => fail) => `(tactic| first | exact DpAll.nil | (apply DpAll.cons; (purse 7010 => fail); (purse 7009 => fail)))
local macro_rules | `(tactic| purse 7010 => fail) => `(tactic| first | exact Dp.int _ | exact Dp.bl _ | exact Dp.non | exact Dp.str _ | (refine dp_int ?_; omega) | (refine dp_bl ?_; simp only [decide_eq_decide]; omega) | (apply dp_lst; (purse 7003 => fail); (purse 7009 => fail)) | (apply dp_tup; (purse 7003 => fail); (purse 7009 => fail)))
local macro_rules | `(tactic| purse 7011 => fail) => `(tactic| first | assumption | omega)
local macro_rules | `(tactic| purse 7001 => fail) => `(tactic| fail "no use")
local macro_rules | `(tactic| purse 7002 => fail) => `(tactic| first
  | (with_reducible refine set_go ?_)
  | (with_reducible refine Step.go ?_)
  | (with_reducible first | refine g_pow10_6 ?_ | refine g_pow10_7 ?_ | refine g_pow10_18 ?_ | refine g_pow10_29 ?_ | refine g_pow10_30 ?_)
  | ((with_reducible refine' g_I ?a0 ?_); (case a0 => (purse 7007 => fail)))
  | ((with_reducible refine' g_ixL ?a0 ?a1 ?_); (case a0 => (purse 7003 => fail)); (case a1 => k_dflt (exact rfl)))
  | ((with_reducible refine' g_kfld ?a0 ?a1 ?a2 ?a3 ?_); (case a0 => (purse 7003 => fail)); (case a1 => k_dflt (assumption)); (case a2 => k_dflt (assumption)); (case a3 => k_dflt (exact rfl)))
  | ((with_reducible refine' g_kprop ?a0 ?_); (case a0 => (purse 7003 => fail)))
  | ((with_reducible refine' g_kmeth ?a0 ?a1 ?_); (case a0 => (purse 7003 => fail)); (case a1 => k_dflt (exact rfl)))
  | ((with_reducible refine' g_own ?a0 ?a1 ?a2 ?_); (case a0 => (purse 7003 => fail)); (case a1 => (purse 7008 => fail)); (case a2 => k_dflt (assumption)))
  | ((with_reducible refine' g_cmp ?a0 ?a1 ?a2 ?_); (case a0 => (purse 7003 => fail)); (case a1 => (purse 7008 => fail)); (case a2 => k_dflt (assumption)))
  | ((with_reducible refine' g_neq ?a0 ?a1 ?a2 ?_); (case a0 => (purse 7003 => fail)); (case a1 => (purse 7008 => fail)); (case a2 => k_dflt (assumption)))
  | ((with_reducible refine' g_right ?a0 ?_); (case a0 => (purse 7003 => fail)))
  | ((with_reducible refine' use_draw ?a0 ?a1 ?a2 ?a3 ?a4 ?_); (case a0 => assumption); (case a1 => intro _ _; (purse 7005 => fail)); (case a2 => assumption); (case a3 => (purse 7011 => fail)); (case a4 => (purse 7011 => fail)); intro _ _ _ _ _ _ _ _)
  | ((with_reducible refine' use_giveI ?a0 ?a1 ?a2 ?_); (case a0 => assumption); (case a1 => intro _ _; (purse 7005 => fail)); (case a2 => assumption); intro _ _ _ _ _ _ _ _)
  | ((with_reducible refine' use_source ?a0 ?a1 ?_); (case a0 => assumption); (case a1 => k_dflt (assumption)); intro _ _ _ _ _ _)
  | (with_reducible refine g_absN ?_; intro _ _)
  | (with_reducible refine g_maxN ?_; intro _ _ _ _)
  | (with_reducible refine g_minN ?_; intro _ _ _ _)
  | ((with_reducible refine' g_kR1 ?a0 ?a1 ?_); (case a0 => omega); (case a1 => omega))
  | ((with_reducible refine' g_neD ?a0 ?a1 ?a2 ?_); (case a0 => (purse 7010 => fail)); (case a1 => (purse 7010 => fail)); (case a2 => k_dflt (rfl)))
  | ((with_reducible refine' g_eqD ?a0 ?a1 ?a2 ?_); (case a0 => (purse 7010 => fail)); (case a1 => (purse 7010 => fail)); (case a2 => k_dflt (rfl)))
  | ((with_reducible refine' g_klst ?a0 ?a1 ?_); (case a0 => assumption); (case a1 => k_dflt (exact rfl)); intro _ _ _ _)
  | ((with_reducible refine' g_ktup ?a0 ?a1 ?_); (case a0 => assumption); (case a1 => k_dflt (exact rfl)); intro _ _ _ _)
  | ((with_reducible refine' g_setL ?a0 ?a1 ?a2 ?_); (case a0 => assumption); (case a1 => (purse 7005 => fail)); (case a2 => k_dflt (exact rfl)); intro _ _)
  | ((with_reducible refine' g_unl3 ?a0 ?_); (case a0 => (purse 7003 => fail)))
  | (purse 7001 => fail))
local macro_rules | `(tactic| purse 7012 => fail) => `(tactic| ((try (with_reducible refine start_go ?_)); repeat (purse 7002 => fail)))
local macro_rules | `(tactic| purse 7013 => fail) => `(tactic| first | rfl | (refine decide_eq_true ?_; omega) | (simp only [Bool.not_eq_true', Bool.not_eq_false', decide_eq_false_iff_not, decide_eq_true_eq, Bool.not_not, decide_eq_decide]; done) | (simp only [Bool.not_eq_true', Bool.not_eq_false', decide_eq_false_iff_not, decide_eq_true_eq, Bool.not_not, decide_eq_decide]; omega))
local macro_rules | `(tactic| purse 7014 => fail) => `(tactic| first | rfl | (refine decide_eq_false ?_; omega) | (simp only [Bool.not_eq_true', Bool.not_eq_false', decide_eq_false_iff_not, decide_eq_true_eq, Bool.not_not, decide_eq_decide]; done) | (simp only [Bool.not_eq_true', Bool.not_eq_false', decide_eq_false_iff_not, decide_eq_true_eq, Bool.not_not, decide_eq_decide]; omega))
local macro_rules | `(tactic| purse 7015 => fail) => `(tactic| ((refine g_yes ?h ?_); (case h => (purse 7013 => fail))))
local macro_rules | `(tactic| purse 7016 => fail) => `(tactic| ((refine g_no ?h ?_); (case h => (purse 7014 => fail))))
local macro_rules | `(tactic| purse 7017 => fail) => `(tactic| first | (purse 7015 => fail) | (purse 7016 => fail))
local macro_rules | `(tactic| purse 7018 => fail) => `(tactic| repeat ((purse 7012 => fail); (purse 7017 => fail)))
local macro_rules | `(tactic| purse 7019 => fail) => `(tactic| repeat (first | exact intIn_nil | refine intIn_cons (by omega) (by omega) ?_))
local macro_rules | `(tactic| purse 7020 => fail) => `(tactic| (simp only [List.length_cons, List.length_nil]; omega))
local macro_rules | `(tactic| purse 7021 => fail) => `(tactic| (refine g_two (fun c => ?_) (fun c => ?_) <;> first | (have c := of_decide_eq_true c) | (have c := of_decide_eq_false c) | skip))
local macro_rules | `(tactic| purse 7022 => fail) => `(tactic| ((purse 7018 => fail); (purse 7012 => fail); try ((purse 7021 => fail) <;> (purse 7022 => fail))))

local macro_rules | `(tactic| purse 7001 => fail) => `(tactic| first
  | (with_reducible refine use_wholeI ?_)
  | (with_reducible refine g_pow10_9 ?_)
  | ((with_reducible refine' use_time ?a0 ?a1 ?_); (case a0 => (purse 7011 => fail)); (case a1 => (purse 7011 => fail))))

/-! rows -/
open He in
structure TR14 (K : PySem.W.Frag) (w : World) (mg : Str → Option Value) : Prop extends TW K w mg where
  g_check_way : mg "check_way" = some (.ref (ga K "check_way"))
  g_is_moment : mg "is_moment" = some (.ref (ga K "is_moment"))
  g_is_row : mg "is_row" = some (.ref (ga K "is_row"))
  g_is_step : mg "is_step" = some (.ref (ga K "is_step"))
  g_follows : mg "follows" = some (.ref (ga K "follows"))
  z_zip : mg "zip" = none
  z_all : mg "all" = none
  lo : LenO K (ga K "Way") (ma K (ga K "Way") "__len__")
  gi : GI K (ga K "Way") (ma K (ga K "Way") "__getitem__")
def placeB (N : Nat) : PyData → Bool
  | .int i => decide (0 ≤ i) && decide (i < (N : Int))
  | _ => false
def momB : PyData → Bool
  | .int i => decide (-1000000000000000000000000000000 ≤ i) && decide (i ≤ 1000000000000000000000000000000)
  | _ => false
def stepB (N : Nat) : PyData → Bool
  | .tuple [a, b] => placeB N a && momB b
  | _ => false
def folB (as : List Ar) (n n' t t' : Int) : Bool := match fnd as n n' with
  | none => false
  | some a => decide (a.l ≤ t' - t) && (match a.m with | none => true | some u => decide (t' - t ≤ u))
theorem kit_tuple : ∀ d : PyData, kitB (tyN d) "tuple" = some (match d with | .tuple _ => true | _ => false)
  | .none => (by decide +kernel : kitB "NoneType" "tuple" = some false)
  | .bool _ => (by decide +kernel : kitB "bool" "tuple" = some false)
  | .int _ => (by decide +kernel : kitB "int" "tuple" = some false)
  | .str _ => (by decide +kernel : kitB "str" "tuple" = some false)
  | .list _ => (by decide +kernel : kitB "list" "tuple" = some false)
  | .tuple _ => (by decide +kernel : kitB "tuple" "tuple" = some true)
  | .dict _ => (by decide +kernel : kitB "dict" "tuple" = some false)
def spPlaceW (C : Addr) : Sp := fun vs H Q _ => ∃ (v : V) (d : PyData) (x : Addr) (ns : List (List V)) (as : List Ar), vs = [v, .ref x] ∧ Pv H v d ∧ WA C H x ns as ∧ ns.length ≤ 12 ∧ Q (.bl (placeB ns.length d)) H
def spMom : Sp := fun vs H Q _ => ∃ v d, vs = [v] ∧ Pv H v d ∧ Q (.bl (momB d)) H
def spCWay (C : Addr) : Sp := fun vs H Q _ => ∃ (x : Addr) (ns : List (List V)) (as : List Ar), vs = [.ref x] ∧ WA C H x ns as ∧ Q .non H
def spStep (C : Addr) : Sp := fun vs H Q _ => ∃ (x : Addr) (v : V) (d : PyData) (ns : List (List V)) (as : List Ar), vs = [.ref x, v] ∧ WA C H x ns as ∧ ns.length ≤ 12 ∧ Pv H v d ∧ Q (.bl (stepB ns.length d)) H
def spFol (C : Addr) : Sp := fun vs H Q _ => ∃ (x a b : Addr) (ns : List (List V)) (as : List Ar) (n n' t t' : Int), vs = [.ref x, .ref a, .ref b] ∧ WA C H x ns as ∧ H a = some (.tup [.int n, .int t]) ∧ H b = some (.tup [.int n', .int t']) ∧ Q (.bl (folB as n n' t t')) H
section
open He
variable {P : Program} {w : World} {K : PySem.W.Frag} {mg : Str → Option Value} {base : Heap} {f : Addr} {fd : FuncData}
theorem ok_placeW (F : FnP K "is_place" "is_place" s_is_place f fd) (T : TR14 K w mg) (D_is_whole : Dn P w K mg base 2 (ga K "is_whole") ["value"] spWhole) (D_len : Dn P w K mg base 2 (ma K (ga K "Way") "__len__") ["self"] (spLen (ga K "Way"))) : FnOk P w K mg base (L2.CX P w) 6 f fd ["value", "things"] (spPlaceW (ga K "Way")) := by
  refine F.ok c_is_place (fun vs H Q E h => ?_) (fun cdv A outer s H vs Q E hr h => ⟨_, pss_one (ps_ret (pe_and (pe_dn D_is_whole (rm hr) rfl T.g_is_whole (passes_call (takes_of rfl rfl rfl rfl) fun _ _ _ _ h => h) (pa_cons (pv 0) (pa_nil))) (pe_one (pe_chain op_le op_lt (pe_int) (pv 0) (pe_callB (cl_lenO T.lo D_len (rm hr) (passes_call (takes_of rfl rfl rfl rfl) fun _ _ _ _ h => h)) (by rfl) T.z_len (by decide +kernel) (pa_cons (pv 1) (pa_nil))))))), ?_⟩)
  · obtain ⟨v, d, x, ns, as, rfl, _⟩ := h
    rfl
  · obtain ⟨v, d, x, ns, as, rfl, hp, wa, nl, k⟩ := h
    (purse 7012 => fail)
    refine use_whole hp ?_
    (purse 7012 => fail)
    cases d with
    | int i =>
      cases hp
      (purse 7015 => fail)
      (purse 7012 => fail)
      by_cases i0 : 0 ≤ i
      · rw [decide_eq_true i0]
        (purse 7015 => fail)
        (purse 7012 => fail)
        obtain ⟨dx, t1, t2, hx, h1, h2⟩ := wa
        refine ⟨x, dx, _, rfl, hx, x, ns, as, rfl, ⟨dx, t1, t2, hx, h1, h2⟩, ns.length, by omega, rfl, ?_⟩
        (purse 7012 => fail)
        have e : placeB ns.length (.int i) = decide (i < (ns.length : Int)) := by show (decide (0 ≤ i) && decide (i < (ns.length : Int))) = _; rw [decide_eq_true i0]; rfl
        rw [← e]
        exact k
      · rw [decide_eq_false i0]
        (purse 7016 => fail)
        have e : placeB ns.length (.int i) = false := by show (decide (0 ≤ i) && decide (i < (ns.length : Int))) = _; rw [decide_eq_false i0]; rfl
        rw [← e]
        exact k
    | _ => exact iteF k
theorem ok_momD (F : FnP K "is_moment" "is_moment" s_is_moment f fd) (T : TR14 K w mg) (D_is_whole : Dn P w K mg base 2 (ga K "is_whole") ["value"] spWhole) : FnOk P w K mg base (L2.CX P w) 4 f fd ["value"] spMom := by
  refine F.ok c_is_moment (fun vs H Q E h => ?_) (fun cdv A outer s H vs Q E hr h => ⟨_, pss_one (ps_ret (pe_and (pe_dn D_is_whole (rm hr) rfl T.g_is_whole (passes_call (takes_of rfl rfl rfl rfl) fun _ _ _ _ h => h) (pa_cons (pv 0) (pa_nil))) (pe_one (pe_chain op_le op_le (pe_un un_neg (pe_op op_pow (pe_int) (pe_int))) (pv 0) (pe_op op_pow (pe_int) (pe_int)))))), ?_⟩)
  · obtain ⟨v, d, rfl, _⟩ := h
    rfl
  · obtain ⟨v, d, rfl, hp, k⟩ := h
    (purse 7012 => fail)
    refine use_whole hp ?_
    (purse 7012 => fail)
    cases d with
    | int i =>
      cases hp
      (purse 7015 => fail)
      (purse 7012 => fail)
      by_cases i0 : -1000000000000000000000000000000 ≤ i
      · rw [decide_eq_true i0]
        (purse 7015 => fail)
        (purse 7012 => fail)
        have e : momB (.int i) = decide (i ≤ 1000000000000000000000000000000) := by show (decide (-1000000000000000000000000000000 ≤ i) && decide (i ≤ 1000000000000000000000000000000)) = _; rw [decide_eq_true i0]; rfl
        rw [← e]
        exact k
      · rw [decide_eq_false i0]
        (purse 7016 => fail)
        have e : momB (.int i) = false := by show (decide (-1000000000000000000000000000000 ≤ i) && decide (i ≤ 1000000000000000000000000000000)) = _; rw [decide_eq_false i0]; rfl
        rw [← e]
        exact k
    | _ => exact iteF k
theorem ok_cway (F : FnP K "check_way" "check_way" s_check_way f fd) (T : TR14 K w mg) : FnOk P w K mg base (L2.CX P w) 2 f fd ["value"] (spCWay (ga K "Way")) := by
  refine F.ok c_check_way (fun vs H Q E h => ?_) (fun cdv A outer s H vs Q E hr h => ⟨_, pss_one (ps_if (pt_not (pt_val (pe_callB call_isi (by rfl) T.z_isinstance (by decide +kernel) (pa_cons (pv 0) (pa_cons (pe_glob (v := .ref _) rfl T.g_Way rfl) (pa_nil))))))
      (pss_one (ps_never))
      (pss_nil)), ?_⟩)
  · obtain ⟨x, ns, as, rfl, _⟩ := h
    rfl
  · obtain ⟨x, ns, as, rfl, ⟨dx, t1, t2, hx, h1, h2⟩, k⟩ := h
    (purse 7012 => fail)
    refine g_isi (.own _) (.base (.ins hx T.ic.cl T.ic.ha T.ic.hn T.ic.htk T.ic.hm)) T.ic.me ?_
    (purse 7012 => fail)
    (purse 7016 => fail)
    (purse 7012 => fail)
    exact k
theorem ok_step (F : FnP K "is_step" "is_step" s_is_step f fd) (T : TR14 K w mg) (D_is_place : Dn P w K mg base 6 (ga K "is_place") ["value", "things"] (spPlaceW (ga K "Way"))) (D_is_moment : Dn P w K mg base 4 (ga K "is_moment") ["value"] spMom) : FnOk P w K mg base (L2.CX P w) 8 f fd ["way", "value"] (spStep (ga K "Way")) := by
  refine F.ok c_is_step (fun vs H Q E h => ?_) (fun cdv A outer s H vs Q E hr h => ⟨_, pss_cons (ps_if (PW.pt (pw_or (pt_not (pt_val (pe_callB call_isi (by rfl) T.z_isinstance (by decide +kernel) (pa_cons (pv 1) (pa_cons (pe_bltn (v := .ty "tuple") rfl T.z_tuple (by decide +kernel) rfl) (pa_nil)))))) (pw_or1 (pt_cmpR op_ne (pe_callB cl_len (by rfl) T.z_len (by decide +kernel) (pa_cons (pv 1) (pa_nil))) (pe_int) (nomark _)))))
      (pss_one (ps_ret (pe_bl)))
      (pss_nil))
      (pss_one (ps_ret (pe_and (pe_dn D_is_place (rm hr) rfl T.g_is_place (passes_call (takes_of rfl rfl rfl rfl) fun _ _ _ _ h => h) (pa_cons (pe_ix ix_tup (pv 1) (pe_int) (fun _ _ => rfl)) (pa_cons (pv 0) (pa_nil)))) (pe_one (pe_dn D_is_moment (rm hr) rfl T.g_is_moment (passes_call (takes_of rfl rfl rfl rfl) fun _ _ _ _ h => h) (pa_cons (pe_ix ix_tup (pv 1) (pe_int) (fun _ _ => rfl)) (pa_nil))))))), ?_⟩)
  · obtain ⟨x, v, d, ns, as, rfl, _⟩ := h
    rfl
  · obtain ⟨x, v, d, ns, as, rfl, wa, nl, hp, k⟩ := h
    (purse 7012 => fail)
    refine g_isP hp (kit_tuple d) ?_
    (purse 7012 => fail)
    cases d with
    | tuple ds =>
      cases hp with
      | @tup a xs _ ha ra =>
      (purse 7016 => fail)
      (purse 7012 => fail)
      refine g_lent ha ?_
      (purse 7012 => fail)
      cases ra with
      | nil =>
        (purse 7015 => fail)
        (purse 7012 => fail)
        exact k
      | cons p1 r1 =>
        cases r1 with
        | nil =>
          (purse 7015 => fail)
          (purse 7012 => fail)
          exact k
        | cons p2 r2 =>
          cases r2 with
          | nil =>
            (purse 7016 => fail)
            (purse 7012 => fail)
            refine g_ixT ha rfl ?_
            (purse 7012 => fail)
            refine ⟨_, _, x, ns, as, rfl, p1, wa, nl, ?_⟩
            (purse 7012 => fail)
            rename_i d1 _ d2
            cases e1 : placeB ns.length d1 with
            | true =>
              (purse 7015 => fail)
              (purse 7012 => fail)
              refine g_ixT ha rfl ?_
              (purse 7012 => fail)
              refine ⟨_, _, rfl, p2, ?_⟩
              have e : stepB ns.length (.tuple [d1, d2]) = momB d2 := by show (placeB ns.length d1 && momB d2) = _; rw [e1]; rfl
              rw [← e]
              exact k
            | false =>
              (purse 7016 => fail)
              have e : stepB ns.length (.tuple [d1, d2]) = false := by show (placeB ns.length d1 && momB d2) = _; rw [e1]; rfl
              rw [← e]
              exact k
          | cons p3 r3 =>
            (purse 7015 => fail)
            (purse 7012 => fail)
            exact k
    | _ =>
      (purse 7015 => fail)
      (purse 7015 => fail)
      (purse 7012 => fail)
      exact k
theorem ok_fol (F : FnP K "follows" "follows" s_follows f fd) (T : TR14 K w mg) (H_arrow : Hn P w K mg base 4 (ga K "Way") "arrow" (spGet (ga K "Way"))) : FnOk P w K mg base (L2.CX P w) 6 f fd ["way", "one", "other"] (spFol (ga K "Way")) := by
  refine F.ok c_follows (fun vs H Q E h => ?_) (fun cdv A outer s H vs Q E hr h => ⟨_, pss_cons (ps_set (i := 3) c_follows.nd rfl (Or.inl rfl) (pe_dm H_arrow (rm hr) (passes_call (takes_of rfl rfl rfl rfl) fun _ _ _ _ h => h) (pv 0) (pa_cons (pe_ix ix_tup (pv 1) (pe_int) (fun _ _ => rfl)) (pa_cons (pe_ix ix_tup (pv 2) (pe_int) (fun _ _ => rfl)) (pa_nil)))))
      (pss_cons (ps_if (pt_cmpR op_isN (pv 3) (pe_non) (nomark _))
      (pss_one (ps_ret (pe_bl)))
      (pss_nil))
      (pss_cons (ps_set (i := 4) c_follows.nd rfl (Or.inl rfl) (pe_op op_sub (pe_ix ix_tup (pv 2) (pe_int) (fun _ _ => rfl)) (pe_ix ix_tup (pv 1) (pe_int) (fun _ _ => rfl))))
      (pss_one (ps_ret (pe_and (pe_cmpR op_le (pe_ix ix_tup (pv 3) (pe_int) (fun _ _ => rfl)) (pv 4) (nomark _)) (pe_one (pe_or (pe_cmpR op_isN (pe_ix ix_tup (pv 3) (pe_int) (fun _ _ => rfl)) (pe_non) (nomark _)) (pe_one (pe_cmpR op_le (pv 4) (pe_ix ix_tup (pv 3) (pe_int) (fun _ _ => rfl)) (nomark _)))))))))), ?_⟩)
  · obtain ⟨x, a, b, ns, as, n, n', t, t', rfl, _⟩ := h
    rfl
  · obtain ⟨x, a, b, ns, as, n, n', t, t', rfl, wa, ha, hb, k⟩ := h
    have wa' := wa
    obtain ⟨dx, t1, t2, hx, h1, h2⟩ := wa
    (purse 7012 => fail)
    refine g_kmeth hx rfl ?_
    (purse 7012 => fail)
    refine g_ixT ha rfl ?_
    (purse 7012 => fail)
    refine g_ixT hb rfl ?_
    (purse 7012 => fail)
    refine ⟨x, _, _, .int n, .int n', ns, as, rfl, wa', .int _, .int _, .inr ⟨n, n', rfl, rfl, fun e0 => ?_, fun c tc e1 htc => ?_⟩⟩
    · have e : folB as n n' t t' = false := by unfold folB; rw [e0]
      (purse 7012 => fail)
      refine ⟨rfl, ?_⟩
      (purse 7012 => fail)
      (purse 7015 => fail)
      (purse 7012 => fail)
      rw [← e]
      exact k
    · have e : folB as n n' t t' = (decide (c.l ≤ t' - t) && (match c.m with | none => true | some u => decide (t' - t ≤ u))) := by unfold folB; rw [e1]
      (purse 7012 => fail)
      refine ⟨rfl, ?_⟩
      (purse 7012 => fail)
      (purse 7016 => fail)
      (purse 7012 => fail)
      refine g_ixT hb rfl ?_
      (purse 7012 => fail)
      refine g_ixT ha rfl ?_
      (purse 7012 => fail)
      refine g_ixT htc rfl ?_
      (purse 7012 => fail)
      by_cases z1 : c.l ≤ t' - t
      · rw [decide_eq_true z1] at e ⊢
        (purse 7015 => fail)
        (purse 7012 => fail)
        refine g_ixT htc rfl ?_
        (purse 7012 => fail)
        refine ⟨rfl, ?_⟩
        cases em : c.m with
        | none =>
          rw [em] at e
          (purse 7012 => fail)
          (purse 7015 => fail)
          rw [show true = folB as n n' t t' from e.symm]
          exact k
        | some u =>
          rw [em] at e
          rw [show ov (some u) = V.int u from rfl]
          (purse 7012 => fail)
          (purse 7016 => fail)
          (purse 7012 => fail)
          refine g_ixT htc (v := .int u) (by show some (ov c.m) = _; rw [em]; rfl) ?_
          (purse 7012 => fail)
          rw [show decide (t' - t ≤ u) = folB as n n' t t' from e.symm]
          exact k
      · rw [decide_eq_false z1] at e ⊢
        (purse 7016 => fail)
        rw [show false = folB as n n' t t' from e.symm]
        exact k
end

end KW
namespace KW
open PySem PySem.Spec PyProof.Rows L2 AF RZ
open K1
open C8 (pe_gc)
local macro_rules | `(tactic| purse 7003 => fail) => `(tactic| k_dflt (refine Sh.has_ (by assumption) ?_; repeat (first | exact On.here | apply On.next)))
local macro_rules | `(tactic| purse 7004 => fail) => `(tactic| k_dflt (repeat (first | exact On.here | apply On.next)))
local macro_rules | `(tactic| purse 7005 => fail) => `(tactic| (repeat (first | exact Rep.here | apply Rep.next)))
local macro_rules | `(tactic| purse 7006 => fail) => `(tactic| (exact Sh.out (by assumption) (fun b h => by simp [h])))
local macro_rules | `(tactic| purse 7007 => fail) => `(tactic| k_dflt (first | ((with_reducible refine cdivw ?_ ?_) <;> omega) | ((with_reducible show CDiv _ _); constructor <;> omega) | ((with_reducible show CMul _ _); (first | (left; constructor <;> omega) | (right; constructor <;> omega))) | (show (0 : Int) < _; omega)))
local macro_rules | `(tactic| purse 7008 => fail) => `(tactic| first | exact Kd.int _ | exact Kd.bl _ | exact Kd.non | exact Kd.str _ | exact Kd.ins (by (purse 7003 => fail)) | exact Kd.lst (by (purse 7003 => fail)) | exact Kd.tup (by (purse 7003 => fail)))
local macro_rules | `(tactic| purse 7009 => fail) => `(tactic| first | exact DpAll.nil | (apply DpAll.cons; (purse 7010 => fail); (purse 7009 => fail)))
local macro_rules | `(tactic| purse 7010 => fail) => `(tactic| first | exact Dp.int _ | exact Dp.bl _ | exact Dp.non | exact Dp.str _ | (refine dp_int ?_; omega) | (refine dp_bl ?_; simp only [decide_eq_decide]; omega) | (apply dp_lst; (purse 7003 => fail); (purse 7009 => fail)) | (apply dp_tup; (purse 7003 => fail); (purse 7009 => fail)))
local macro_rules | `(tactic| purse 7011 => fail) => `(tactic| first | assumption | omega)
local macro_rules | `(tactic| purse 7001 => fail) => `(tactic| fail "no use")
local macro_rules | `(tactic| purse 7002 => fail) => `(tactic| first
  | (with_reducible refine set_go ?_)
  | (with_reducible refine Step.go ?_)
  | (with_reducible first | refine g_pow10_6 ?_ | refine g_pow10_7 ?_ | refine g_pow10_18 ?_ | refine g_pow10_29 ?_ | refine g_pow10_30 ?_)
  | ((with_reducible refine' g_I ?a0 ?_); (case a0 => (purse 7007 => fail)))
  | ((with_reducible refine' g_ixL ?a0 ?a1 ?_); (case a0 => (purse 7003 => fail)); (case a1 => k_dflt (exact rfl)))
  | ((with_reducible refine' g_kfld ?a0 ?a1 ?a2 ?a3 ?_); (case a0 => (purse 7003 => fail)); (case a1 => k_dflt (assumption)); (case a2 => k_dflt (assumption)); (case a3 => k_dflt (exact rfl)))
  | ((with_reducible refine' g_kprop ?a0 ?_); (case a0 => (purse 7003 => fail)))
  | ((with_reducible refine' g_kmeth ?a0 ?a1 ?_); (case a0 => (purse 7003 => fail)); (case a1 => k_dflt (exact rfl)))
  | ((with_reducible refine' g_own ?a0 ?a1 ?a2 ?_); (case a0 => (purse 7003 => fail)); (case a1 => (purse 7008 => fail)); (case a2 => k_dflt (assumption)))
  | ((with_reducible refine' g_cmp ?a0 ?a1 ?a2 ?_); (case a0 => (purse 7003 => fail)); (case a1 => (purse 7008 => fail)); (case a2 => k_dflt (assumption)))
  | ((with_reducible refine' g_neq ?a0 ?a1 ?a2 ?_); (case a0 => (purse 7003 => fail)); (case a1 => (purse 7008 => fail)); (case a2 => k_dflt (assumption)))
  | ((with_reducible refine' g_right ?a0 ?_); (case a0 => (purse 7003 => fail)))
  | ((with_reducible refine' use_draw ?a0 ?a1 ?a2 ?a3 ?a4 ?_); (case a0 => assumption); (case a1 => intro _ _; (purse 7005 => fail)); (case a2 => assumption); (case a3 => (purse 7011 => fail)); (case a4 => (purse 7011 => fail)); intro _ _ _ _ _ _ _ _)
  | ((with_reducible refine' use_giveI ?a0 ?a1 ?a2 ?_); (case a0 => assumption); (case a1 => intro _ _; (purse 7005 => fail)); (case a2 => assumption); intro _ _ _ _ _ _ _ _)
  | ((with_reducible refine' use_source ?a0 ?a1 ?_); (case a0 => assumption); (case a1 => k_dflt (assumption)); intro _ _ _ _ _ _)
  | (with_reducible refine g_absN ?_; intro _ _)
  | (with_reducible refine g_maxN ?_; intro _ _ _ _)
  | (with_reducible refine g_minN ?_; intro _ _ _ _)
  | ((with_reducible refine' g_kR1 ?a0 ?a1 ?_); (case a0 => omega); (case a1 => omega))
  | ((with_reducible refine' g_neD ?a0 ?a1 ?a2 ?_); (case a0 => (purse 7010 => fail)); (case a1 => (purse 7010 => fail)); (case a2 => k_dflt (rfl)))
  | ((with_reducible refine' g_eqD ?a0 ?a1 ?a2 ?_); (case a0 => (purse 7010 => fail)); (case a1 => (purse 7010 => fail)); (case a2 => k_dflt (rfl)))
  | ((with_reducible refine' g_klst ?a0 ?a1 ?_); (case a0 => assumption); (case a1 => k_dflt (exact rfl)); intro _ _ _ _)
  | ((with_reducible refine' g_ktup ?a0 ?a1 ?_); (case a0 => assumption); (case a1 => k_dflt (exact rfl)); intro _ _ _ _)
  | ((with_reducible refine' g_setL ?a0 ?a1 ?a2 ?_); (case a0 => assumption); (case a1 => (purse 7005 => fail)); (case a2 => k_dflt (exact rfl)); intro _ _)
  | ((with_reducible refine' g_unl3 ?a0 ?_); (case a0 => (purse 7003 => fail)))
  | (purse 7001 => fail))
local macro_rules | `(tactic| purse 7012 => fail) => `(tactic| ((try (with_reducible refine start_go ?_)); repeat (purse 7002 => fail)))
local macro_rules | `(tactic| purse 7013 => fail) => `(tactic| first | rfl | (refine decide_eq_true ?_; omega) | (simp only [Bool.not_eq_true', Bool.not_eq_false', decide_eq_false_iff_not, decide_eq_true_eq, Bool.not_not, decide_eq_decide]; done) | (simp only [Bool.not_eq_true', Bool.not_eq_false', decide_eq_false_iff_not, decide_eq_true_eq, Bool.not_not, decide_eq_decide]; omega))
local macro_rules | `(tactic| purse 7014 => fail) => `(tactic| first | rfl | (refine decide_eq_false ?_; omega) | (simp only [Bool.not_eq_true', Bool.not_eq_false', decide_eq_false_iff_not, decide_eq_true_eq, Bool.not_not, decide_eq_decide]; done) | (simp only [Bool.not_eq_true', Bool.not_eq_false', decide_eq_false_iff_not, decide_eq_true_eq, Bool.not_not, decide_eq_decide]; omega))
local macro_rules | `(tactic| purse 7015 => fail) => `(tactic| ((refine g_yes ?h ?_); (case h => (purse 7013 => fail))))
local macro_rules | `(tactic| purse 7016 => fail) => `(tactic| ((refine g_no ?h ?_); (case h => (purse 7014 => fail))))
local macro_rules | `(tactic| purse 7017 => fail) => `(tactic| first | (purse 7015 => fail) | (purse 7016 => fail))
local macro_rules | `(tactic| purse 7018 => fail) => `(tactic| repeat ((purse 7012 => fail); (purse 7017 => fail)))
local macro_rules | `(tactic| purse 7019 => fail) => `(tactic| repeat (first | exact intIn_nil | refine intIn_cons (by omega) (by omega) ?_))
local macro_rules | `(tactic| purse 7020 => fail) => `(tactic| (simp only [List.length_cons, List.length_nil]; omega))
local macro_rules | `(tactic| purse 7021 => fail) => `(tactic| (refine g_two (fun c => ?_) (fun c => ?_) <;> first | (have c := of_decide_eq_true c) | (have c := of_decide_eq_false c) | skip))
local macro_rules | `(tactic| purse 7022 => fail) => `(tactic| ((purse 7018 => fail); (purse 7012 => fail); try ((purse 7021 => fail) <;> (purse 7022 => fail))))

local macro_rules | `(tactic| purse 7001 => fail) => `(tactic| first
  | (with_reducible refine use_wholeI ?_)
  | (with_reducible refine g_pow10_9 ?_)
  | ((with_reducible refine' use_time ?a0 ?a1 ?_); (case a0 => (purse 7011 => fail)); (case a1 => (purse 7011 => fail))))

/-! rows: is_row -/
abbrev Row := List (Int × Int)
def stD (p : Int × Int) : PyData := .tuple [.int p.1, .int p.2]
def stV (p : Int × Int) : List V := [.int p.1, .int p.2]
def pairOf : PyData → Int × Int
  | .tuple [.int n, .int t] => (n, t)
  | _ => (0, 0)
def fol2 (as : List Ar) (p q : Int × Int) : Bool := folB as p.1 q.1 p.2 q.2
def chn (as : List Ar) (row : Row) : Bool := (row.zip row.tail).all fun p => fol2 as p.1 p.2
def rightB (ns : List (List V)) (as : List Ar) : Row → Bool
  | [] => false
  | p :: r => mkAt ns p.1.toNat && chn as (p :: r)
def rowB (ns : List (List V)) (as : List Ar) : PyData → Bool
  | .tuple ds => !ds.isEmpty && (ds.all (stepB ns.length) && rightB ns as (ds.map pairOf))
  | _ => false
theorem rowB_tup {ns : List (List V)} {as : List Ar} {ds : List PyData} : rowB ns as (.tuple ds) = (!ds.isEmpty && (ds.all (stepB ns.length) && rightB ns as (ds.map pairOf))) := rfl
theorem pv_up {H H' : Hp} (u : Up H H') {v : V} {d : PyData} (h : Pv H v d) : Pv H' v d := Pv.ch u.ch d v h
theorem pvall_up {H H' : Hp} (u : Up H H') {vs : List V} {ds : List PyData} (h : PvAll H vs ds) : PvAll H' vs ds := PvAll.ch u.ch ds vs h
theorem pvall_get {H : Hp} : ∀ {vs : List V} {ds : List PyData} {i : Nat} {v : V}, PvAll H vs ds → vs[i]? = some v → ∃ d, ds[i]? = some d ∧ Pv H v d
  | _, _, _, _, .nil, e => by simp at e
  | _, _, 0, _, .cons h _, e => by cases e; exact ⟨_, rfl, h⟩
  | _, _, i + 1, _, .cons _ r, e => by
    obtain ⟨d, e1, e2⟩ := pvall_get (i := i) r (by simpa using e)
    exact ⟨d, by simpa using e1, e2⟩
theorem pvall_len {H : Hp} : ∀ {vs : List V} {ds : List PyData}, PvAll H vs ds → vs.length = ds.length
  | _, _, .nil => rfl
  | _, _, .cons _ r => congrArg Nat.succ (pvall_len r)
theorem step_inv {N : Nat} {d : PyData} {H : Hp} {v : V} (h : stepB N d = true) (p : Pv H v d) : ∃ (b : Addr) (q : Int × Int), v = .ref b ∧ d = stD q ∧ H b = some (.tup (stV q)) ∧ 0 ≤ q.1 ∧ q.1 < (N : Int) := by
  unfold stepB at h
  split at h
  · rename_i d1 d2
    rw [Bool.and_eq_true] at h
    obtain ⟨h1, h2⟩ := h
    cases d1 with
    | int n =>
      cases d2 with
      | int t =>
        cases p with
        | tup e r =>
          cases r with
          | cons a r =>
            cases r with
            | cons b r =>
              cases r
              cases a
              cases b
              unfold placeB at h1
              rw [Bool.and_eq_true, decide_eq_true_iff, decide_eq_true_iff] at h1
              exact ⟨_, (n, t), rfl, rfl, e, h1.1, h1.2⟩
      | _ => cases h2
    | _ => cases h1
  · cases h
theorem steps_inv {N : Nat} {H : Hp} : ∀ {vs : List V} {ds : List PyData}, PvAll H vs ds → ds.all (stepB N) = true → ∃ row : Row, ds = row.map stD ∧ Tls H vs (row.map stV) ∧ ∀ q ∈ row, 0 ≤ q.1 ∧ q.1 < (N : Int)
  | _, _, .nil, _ => ⟨[], rfl, .nil, fun _ h => nomatch h⟩
  | _, _, .cons p r, h => by
    rw [List.all_cons, Bool.and_eq_true] at h
    obtain ⟨b, q, rfl, rfl, e, q1, q2⟩ := step_inv h.1 p
    obtain ⟨row, rfl, tl, bd⟩ := steps_inv r h.2
    exact ⟨q :: row, rfl, .cons e tl, fun y hy => by
      rcases List.mem_cons.mp hy with rfl | hy
      · exact ⟨q1, q2⟩
      · exact bd y hy⟩
theorem pd_pair (row : Row) : (row.map stD).map pairOf = row := by
  rw [List.map_map]
  exact (List.map_congr_left fun q _ => rfl).trans (List.map_id row)
theorem row_pv {H : Hp} : ∀ {vs : List V} {row : Row}, Tls H vs (row.map stV) → PvAll H vs (row.map stD)
  | _, [], .nil => .nil
  | _, _ :: _, .cons h r => .cons (.tup h (.cons (.int _) (.cons (.int _) .nil))) (row_pv r)
def spIsRow (C : Addr) : Sp := fun vs H Q _ => ∃ (x : Addr) (v : V) (d : PyData) (ns : List (List V)) (as : List Ar), vs = [.ref x, v] ∧ WA C H x ns as ∧ ns.length ≤ 12 ∧ (∀ xs, xs ∈ ns → Dd xs) ∧ Pv H v d ∧ (∀ ds, d = .tuple ds → ds.length ≤ 900) ∧ ∀ H', Up H H' → Q (.bl (rowB ns as d)) H'
section
open He
variable {P : Program} {w : World} {K : PySem.W.Frag} {mg : Str → Option Value} {base : Heap} {f : Addr} {fd : FuncData}
theorem ok_isrow (F : FnP K "is_row" "is_row" s_is_row f fd) (T : TR14 K w mg) (D_check_way : Dn P w K mg base 2 (ga K "check_way") ["value"] (spCWay (ga K "Way"))) (D_is_step : Dn P w K mg base 8 (ga K "is_step") ["way", "value"] (spStep (ga K "Way"))) (D_makes : Dn P w K mg base 8 (ga K "makes") ["value"] spMakes) (D_item : Dn P w K mg base 6 (ma K (ga K "Way") "__getitem__") ["self", "at"] (spItem (ga K "Way"))) (D_follows : Dn P w K mg base 6 (ga K "follows") ["way", "one", "other"] (spFol (ga K "Way"))) :
    FnOk P w K mg base (L2.CX P w) 12 f fd ["way", "value"] (spIsRow (ga K "Way")) := by
  refine F.ok c_is_row (fun vs H Q E h => ?_) (fun cdv A outer s H vs Q E hr h => ⟨_, pss_cons (ps_expr (pe_dn D_check_way (rm hr) rfl T.g_check_way (passes_call (takes_of rfl rfl rfl rfl) fun _ _ _ _ h => h) (pa_cons (pv 0) (pa_nil))))
      (pss_cons (ps_if (PW.pt (pw_or (pt_not (pt_val (pe_callB call_isi (by rfl) T.z_isinstance (by decide +kernel) (pa_cons (pv 1) (pa_cons (pe_bltn (v := .ty "tuple") rfl T.z_tuple (by decide +kernel) rfl) (pa_nil)))))) (pw_or1 (pt_cmpR op_eq (pe_callB cl_len (by rfl) T.z_len (by decide +kernel) (pa_cons (pv 1) (pa_nil))) (pe_int) (nomark _)))))
      (pss_one (ps_ret (pe_bl)))
      (pss_nil))
      (pss_cons (ps_if (pt_not (pt_val (pe_callB (cl_all rfl) (by rfl) T.z_all (by decide +kernel) (pa_cons (pe_lc (own := [("step", 4)]) (g := gName 4) (tt := tYes) rfl c_is_row.nd (pi_tup (pv 1)) (blkOk_by (own := [("step", 4)]) (N := ["way", "value", "one", "other", "step"]) (sc := defScope s_is_row) (by decide +kernel)) (fun _ _ _ _ _ => pg_name (i := 4) c_is_row.nd rfl (Or.inl rfl)) (fun _ _ _ _ _ => pts_nil) (fun _ _ _ _ _ => pe_dn D_is_step (rm hr) rfl T.g_is_step passL (pa_cons (pv 0) (pa_cons (pv 4) (pa_nil))))) (pa_nil)))))
      (pss_one (ps_ret (pe_bl)))
      (pss_nil))
      (pss_cons (ps_if (pt_not (pt_val (pe_dn D_makes (rm hr) rfl T.g_makes (passes_call (takes_of rfl rfl rfl rfl) fun _ _ _ _ h => h) (pa_cons (pe_ixo D_item T.gi (rm hr) (passes_call (takes_of rfl rfl rfl rfl) fun _ _ _ _ h => h) ((pv 0)) ((pe_ix ix_tup (pe_ix ix_tup (pv 1) (pe_int) (fun _ _ => rfl)) (pe_int) (fun _ _ => rfl)))) (pa_nil)))))
      (pss_one (ps_ret (pe_bl)))
      (pss_nil))
      (pss_one (ps_ret (pe_callB (cl_all rfl) (by rfl) T.z_all (by decide +kernel) (pa_cons (pe_lc (own := [("one", 2), ("other", 3)]) (g := gTup K 2 (gCons (gName 2) (gCons (gName 3) (gNil)))) (tt := tYes) rfl c_is_row.nd (pi_zipA rfl T.z_zip (pa_cons (pv 1) (pa_cons (pe_slice sl_tup (pv 1) (po_some (pe_int)) po_none) (pa_nil)))) (blkOk_by (own := [("one", 2), ("other", 3)]) (N := ["way", "value", "one", "other", "step"]) (sc := defScope s_is_row) (by decide +kernel)) (fun _ _ _ _ _ => pg_tup (n := 2) rfl (pgs_cons (pg_name (i := 2) c_is_row.nd rfl (Or.inl rfl)) (pgs_cons (pg_name (i := 3) c_is_row.nd rfl (Or.inl rfl)) (pgs_nil)))) (fun _ _ _ _ _ => pts_nil) (fun _ _ _ _ _ => pe_dn D_follows (rm hr) rfl T.g_follows passL (pa_cons (pv 0) (pa_cons (pv 2) (pa_cons (pv 3) (pa_nil)))))) (pa_nil)))))))), ?_⟩)
  · obtain ⟨x, v, d, ns, as, rfl, _⟩ := h
    rfl
  · obtain ⟨x, v, d, ns, as, rfl, wa, nl, dd, hp, few, k⟩ := h
    (purse 7012 => fail)
    refine ⟨x, ns, as, rfl, wa, ?_⟩
    (purse 7012 => fail)
    refine g_isP hp (kit_tuple d) ?_
    (purse 7012 => fail)
    cases d with
    | tuple ds =>
      cases hp with
      | @tup a xs _ ha ra =>
      have hl := pvall_len ra
      have hn := few ds rfl
      (purse 7016 => fail)
      (purse 7012 => fail)
      refine g_lent ha ?_
      (purse 7012 => fail)
      by_cases e0 : xs.length = 0
      · (purse 7015 => fail)
        (purse 7012 => fail)
        have e : rowB ns as (.tuple ds) = false := by
          have : ds = [] := List.length_eq_zero_iff.mp (by omega)
          subst this; rfl
        rw [← e]
        exact k _ Up.rfl'
      · (purse 7016 => fail)
        (purse 7012 => fail)
        refine g_lcTA (K := K) (xs := xs) (fun _ => False) (fun i acc H' => Up H H' ∧ acc = ((ds.take i).map (stepB ns.length)).map V.bl) (fun _ z => z.elim) (by omega) ⟨Up.rfl', by simp⟩ (fun i acc H' p o hp h => ⟨Up.setF h.1 hp, h.2⟩) (fun i acc H' h => SqT.of (h.1 _ _ ha)) (fun i acc H' y hy hG R N hR hN => ⟨rfl, ?_⟩) fun D acc H1 hD hG hL hacc => ?_
        · obtain ⟨uH, rfl⟩ := hG
          obtain ⟨d', e1, stD'⟩ := pvall_get (pvall_up uH ra) hy
          refine g_tYes ?_
          rw [show (List.set (wipe [some (V.ref x), some (V.ref a), none, none, none] (List.map (fun x => x.snd) [(Str.ofString "step", 4)])) 4 (some y)) = [some (V.ref x), some (V.ref a), none, none, some y] from rfl]
          (purse 7012 => fail)
          refine ⟨x, y, d', ns, as, rfl, wa.up uH, nl, stD', ?_⟩
          refine hR _ H' UpS.rfl' ⟨uH, ?_⟩
          rw [List.take_add_one, e1, List.map_append, List.map_append]; rfl
        obtain ⟨u1, rfl⟩ := hG
        rw [hl, List.take_length] at hL
        (purse 7012 => fail)
        refine g_all (K := K) (SqL.of hL) ?_
        rw [show ((ds.map (stepB ns.length)).all id) = ds.all (stepB ns.length) by rw [List.all_map]; rfl]
        (purse 7012 => fail)
        cases es : ds.all (stepB ns.length) with
        | false =>
          (purse 7015 => fail)
          (purse 7012 => fail)
          have e : rowB ns as (.tuple ds) = false := by rw [rowB_tup, es]; simp
          rw [← e]
          exact k _ u1
        | true =>
          (purse 7016 => fail)
          (purse 7012 => fail)
          obtain ⟨row, rfl, tl, bd⟩ := steps_inv ra es
          have er : rowB ns as (.tuple (row.map stD)) = rightB ns as row := by
            rw [rowB_tup, es, pd_pair]
            cases row with
            | nil => rfl
            | cons q r => rfl
          rw [er] at k
          cases row with
          | nil =>
            cases tl
            exact absurd rfl e0
          | cons q r =>
            have q0 := bd q (.head _)
            obtain ⟨qn, eqn⟩ : ∃ n : Nat, q.1 = (n : Int) := ⟨q.1.toNat, by omega⟩
            obtain ⟨b0, eb0, hb0⟩ := tl.at_ (i := 0) rfl
            have wa1 := wa.up u1
            have ha1 := u1 _ _ ha
            refine g_ixT ha1 (i := 0) (ai_nat eb0) ?_
            (purse 7012 => fail)
            refine g_ixT (u1 _ _ hb0) (v := .int q.1) rfl ?_
            (purse 7012 => fail)
            rw [eqn]
            obtain ⟨dx, t1, t2, hx, hT, hA⟩ := wa1
            refine ⟨dx, _, hx, x, qn, ns, as, rfl, ⟨dx, t1, t2, hx, hT, hA⟩, by omega, fun t ys ey ht => ?_⟩
            (purse 7012 => fail)
            refine ⟨t, ys, rfl, ht, dd _ (List.mem_of_getElem? ey), fun H2 u2 => ?_⟩
            have u02 := u1.trans u2
            have em : mkAt ns q.1.toNat = mkB ys := by unfold mkAt; rw [eqn, Int.toNat_natCast, ey]; rfl
            (purse 7012 => fail)
            cases emk : mkB ys with
            | false =>
              (purse 7015 => fail)
              (purse 7012 => fail)
              have e : rightB ns as (q :: r) = false := by
                show (mkAt ns q.1.toNat && chn as (q :: r)) = false
                rw [em, emk]; rfl
              rw [← e]
              exact k _ u02
            | true =>
              (purse 7016 => fail)
              (purse 7012 => fail)
              have ha2 := u02 _ _ ha
              have xl : xs.length = (q :: r).length := by rw [hl, List.length_map]
              refine g_slE (K := K) ha2 (n := 1) (by omega) (by decide) fun pa hpa => ?_
              have ua := Up.new (o := .tup (xs.drop 1)) hpa
              have qa : upd H2 pa (.tup (xs.drop 1)) pa = some (.tup (xs.drop 1)) := upd_same
              have u03 := u02.trans ua
              generalize upd H2 pa (.tup (xs.drop 1)) = H3 at ua qa u03 ⊢
              have ha3 := u03 _ _ ha
              have wa3 := wa.up u03
              have tl3 := tl.up u03
              have xl' : xs.length = r.length + 1 := xl
              have dl : (xs.drop 1).length = r.length := by rw [List.length_drop, xl, List.length_cons]; omega
              have zl : ((q :: r).zip r).length = r.length := by rw [List.length_zip, List.length_cons]; omega
              (purse 7012 => fail)
              refine g_lcZD (K := K) (xs := xs) (ys := xs.drop 1) (fun _ => False) (fun D i acc H' => Up H3 H' ∧ acc = ((((q :: r).zip r).take i).map fun p => fol2 as p.1 p.2).map V.bl) (fun _ z => z.elim) (by rw [dl]; omega) (by rw [dl]; omega) (SqT.of ha3) (SqT.of qa) (fun D hD => ⟨Up.new hD, by simp⟩) (fun D i acc H' ys zs hD hd h => ⟨Up.setF h.1 hD, h.2⟩) (fun D i acc H' h => SqT.of (h.1 _ _ ha3)) (fun D i acc H' h => SqT.of (h.1 _ _ qa)) (fun D i acc H' y1 y2 T' hD hd hy1 hy2 hT' hG R N hR hN => ?_) fun D acc H4 hD hG hL4 hacc => ?_
              · obtain ⟨uH, rfl⟩ := hG
                have uT := Up.new (o := .tup [y1, y2]) hT'
                rw [show wipe [some (V.ref x), some (V.ref a), none, none, none] (List.map (fun x => x.snd) [(Str.ofString "one", 2), (Str.ofString "other", 3)]) = [some (V.ref x), some (V.ref a), none, none, none] from rfl]
                refine g_gt2 (K := K) upd_same ⟨rfl, ?_⟩
                generalize upd H' T' (.tup [y1, y2]) = H5 at uT ⊢
                have u5 := uH.trans uT
                have hy3 : xs[i + 1]? = some y2 := by rw [List.getElem?_drop] at hy2; rw [Nat.add_comm]; exact hy2
                obtain ⟨b1, z1, rfl, e1, h1⟩ := (tl3.up u5).get hy1
                obtain ⟨b2, z2, rfl, e2, h2⟩ := (tl3.up u5).get hy3
                rw [List.getElem?_map] at e1 e2
                obtain ⟨p1, e1', rfl⟩ := Option.map_eq_some_iff.mp e1
                obtain ⟨p2', e2', rfl⟩ := Option.map_eq_some_iff.mp e2
                have e2'' : r[i]? = some p2' := e2'
                have ez : ((q :: r).zip r)[i]? = some (p1, p2') := by rw [List.getElem?_zip_eq_some]; exact ⟨e1', e2''⟩
                refine g_tYes ?_
                (purse 7012 => fail)
                refine ⟨x, b1, b2, ns, as, p1.1, p2'.1, p1.2, p2'.2, rfl, wa3.up u5, h1, h2, ?_⟩
                refine hR _ H5 uT.toS ⟨u5, ?_⟩
                rw [List.take_add_one, ez, List.map_append, List.map_append]; rfl
              obtain ⟨u4, rfl⟩ := hG
              rw [show (xs.drop 1).length = ((q :: r).zip r).length by omega, List.take_length] at hL4
              (purse 7012 => fail)
              refine g_all (K := K) (SqL.of hL4) ?_
              have e : ((((q :: r).zip r).map fun p => fol2 as p.1 p.2).all id) = rightB ns as (q :: r) := by
                show _ = (mkAt ns q.1.toNat && chn as (q :: r))
                rw [em, emk, List.all_map]; rfl
              rw [e]
              exact k _ (u03.trans u4)
    | _ =>
      (purse 7015 => fail)
      (purse 7015 => fail)
      (purse 7012 => fail)
      exact k _ Up.rfl'
end

end KW
namespace KW
open PySem PySem.Spec PyProof.Rows L2 AF RZ
open K1
open C8 (pe_gc)
local macro_rules | `(tactic| purse 7003 => fail) => `(tactic| k_dflt (refine Sh.has_ (by assumption) ?_; repeat (first | exact On.here | apply On.next)))
local macro_rules | `(tactic| purse 7004 => fail) => `(tactic| k_dflt (repeat (first | exact On.here | apply On.next)))
local macro_rules | `(tactic| purse 7005 => fail) => `(tactic| (repeat (first | exact Rep.here | apply Rep.next)))
local macro_rules | `(tactic| purse 7006 => fail) => `(tactic| (exact Sh.out (by assumption) (fun b h => by simp [h])))
local macro_rules | `(tactic| purse 7007 => fail) => `(tactic| k_dflt (first | ((with_reducible refine cdivw ?_ ?_) <;> omega) | ((with_reducible show CDiv _ _); constructor <;> omega) | ((with_reducible show CMul _ _); (first | (left; constructor <;> omega) | (right; constructor <;> omega))) | (show (0 : Int) < _; omega)))
local macro_rules | `(tactic| purse 7008 => fail) => `(tactic| first | exact Kd.int _ | exact Kd.bl _ | exact Kd.non | exact Kd.str _ | exact Kd.ins (by (purse 7003 => fail)) | exact Kd.lst (by (purse 7003 => fail)) | exact Kd.tup (by (purse 7003 => fail)))
local macro_rules | `(tactic| purse 7009 => fail) => `(tactic| first | exact DpAll.nil | (apply DpAll.cons; (purse 7010 => fail); (purse 7009 => fail)))
local macro_rules | `(tactic| purse 7010 => fail) => `(tactic| first | exact Dp.int _ | exact Dp.bl _ | exact Dp.non | exact Dp.str _ | (refine dp_int ?_; omega) | (refine dp_bl ?_; simp only [decide_eq_decide]; omega) | (apply dp_lst; (purse 7003 => fail); (purse 7009 => fail)) | (apply dp_tup; (purse 7003 => fail); (purse 7009 => fail)))
local macro_rules | `(tactic| purse 7011 => fail) => `(tactic| first | assumption | omega)
local macro_rules | `(tactic| purse 7001 => fail) => `(tactic| fail "no use")
local macro_rules | `(tactic| purse 7002 => fail) => `(tactic| first
  | (with_reducible refine set_go ?_)
  | (with_reducible refine Step.go ?_)
  | (with_reducible first | refine g_pow10_6 ?_ | refine g_pow10_7 ?_ | refine g_pow10_18 ?_ | refine g_pow10_29 ?_ | refine g_pow10_30 ?_)
  | ((with_reducible refine' g_I ?a0 ?_); (case a0 => (purse 7007 => fail)))
  | ((with_reducible refine' g_ixL ?a0 ?a1 ?_); (case a0 => (purse 7003 => fail)); (case a1 => k_dflt (exact rfl)))
  | ((with_reducible refine' g_kfld ?a0 ?a1 ?a2 ?a3 ?_); (case a0 => (purse 7003 => fail)); (case a1 => k_dflt (assumption)); (case a2 => k_dflt (assumption)); (case a3 => k_dflt (exact rfl)))
  | ((with_reducible refine' g_kprop ?a0 ?_); (case a0 => (purse 7003 => fail)))
  | ((with_reducible refine' g_kmeth ?a0 ?a1 ?_); (case a0 => (purse 7003 => fail)); (case a1 => k_dflt (exact rfl)))
  | ((with_reducible refine' g_own ?a0 ?a1 ?a2 ?_); (case a0 => (purse 7003 => fail)); (case a1 => (purse 7008 => fail)); (case a2 => k_dflt (assumption)))
  | ((with_reducible refine' g_cmp ?a0 ?a1 ?a2 ?_); (case a0 => (purse 7003 => fail)); (case a1 => (purse 7008 => fail)); (case a2 => k_dflt (assumption)))
  | ((with_reducible refine' g_neq ?a0 ?a1 ?a2 ?_); (case a0 => (purse 7003 => fail)); (case a1 => (purse 7008 => fail)); (case a2 => k_dflt (assumption)))
  | ((with_reducible refine' g_right ?a0 ?_); (case a0 => (purse 7003 => fail)))
  | ((with_reducible refine' use_draw ?a0 ?a1 ?a2 ?a3 ?a4 ?_); (case a0 => assumption); (case a1 => intro _ _; (purse 7005 => fail)); (case a2 => assumption); (case a3 => (purse 7011 => fail)); (case a4 => (purse 7011 => fail)); intro _ _ _ _ _ _ _ _)
  | ((with_reducible refine' use_giveI ?a0 ?a1 ?a2 ?_); (case a0 => assumption); (case a1 => intro _ _; (purse 7005 => fail)); (case a2 => assumption); intro _ _ _ _ _ _ _ _)
  | ((with_reducible refine' use_source ?a0 ?a1 ?_); (case a0 => assumption); (case a1 => k_dflt (assumption)); intro _ _ _ _ _ _)
  | (with_reducible refine g_absN ?_; intro _ _)
  | (with_reducible refine g_maxN ?_; intro _ _ _ _)
  | (with_reducible refine g_minN ?_; intro _ _ _ _)
  | ((with_reducible refine' g_kR1 ?a0 ?a1 ?_); (case a0 => omega); (case a1 => omega))
  | ((with_reducible refine' g_neD ?a0 ?a1 ?a2 ?_); (case a0 => (purse 7010 => fail)); (case a1 => (purse 7010 => fail)); (case a2 => k_dflt (rfl)))
  | ((with_reducible refine' g_eqD ?a0 ?a1 ?a2 ?_); (case a0 => (purse 7010 => fail)); (case a1 => (purse 7010 => fail)); (case a2 => k_dflt (rfl)))
  | ((with_reducible refine' g_klst ?a0 ?a1 ?_); (case a0 => assumption); (case a1 => k_dflt (exact rfl)); intro _ _ _ _)
  | ((with_reducible refine' g_ktup ?a0 ?a1 ?_); (case a0 => assumption); (case a1 => k_dflt (exact rfl)); intro _ _ _ _)
  | ((with_reducible refine' g_setL ?a0 ?a1 ?a2 ?_); (case a0 => assumption); (case a1 => (purse 7005 => fail)); (case a2 => k_dflt (exact rfl)); intro _ _)
  | ((with_reducible refine' g_unl3 ?a0 ?_); (case a0 => (purse 7003 => fail)))
  | (purse 7001 => fail))
local macro_rules | `(tactic| purse 7012 => fail) => `(tactic| ((try (with_reducible refine start_go ?_)); repeat (purse 7002 => fail)))
local macro_rules | `(tactic| purse 7013 => fail) => `(tactic| first | rfl | (refine decide_eq_true ?_; omega) | (simp only [Bool.not_eq_true', Bool.not_eq_false', decide_eq_false_iff_not, decide_eq_true_eq, Bool.not_not, decide_eq_decide]; done) | (simp only [Bool.not_eq_true', Bool.not_eq_false', decide_eq_false_iff_not, decide_eq_true_eq, Bool.not_not, decide_eq_decide]; omega))
local macro_rules | `(tactic| purse 7014 => fail) => `(tactic| first | rfl | (refine decide_eq_false ?_; omega) | (simp only [Bool.not_eq_true', Bool.not_eq_false', decide_eq_false_iff_not, decide_eq_true_eq, Bool.not_not, decide_eq_decide]; done) | (simp only [Bool.not_eq_true', Bool.not_eq_false', decide_eq_false_iff_not, decide_eq_true_eq, Bool.not_not, decide_eq_decide]; omega))
local macro_rules | `(tactic| purse 7015 => fail) => `(tactic| ((refine g_yes ?h ?_); (case h => (purse 7013 => fail))))
local macro_rules | `(tactic| purse 7016 => fail) => `(tactic| ((refine g_no ?h ?_); (case h => (purse 7014 => fail))))
local macro_rules | `(tactic| purse 7017 => fail) => `(tactic| first | (purse 7015 => fail) | (purse 7016 => fail))
local macro_rules | `(tactic| purse 7018 => fail) => `(tactic| repeat ((purse 7012 => fail); (purse 7017 => fail)))
local macro_rules | `(tactic| purse 7019 => fail) => `(tactic| repeat (first | exact intIn_nil | refine intIn_cons (by omega) (by omega) ?_))
local macro_rules | `(tactic| purse 7020 => fail) => `(tactic| (simp only [List.length_cons, List.length_nil]; omega))
local macro_rules | `(tactic| purse 7021 => fail) => `(tactic| (refine g_two (fun c => ?_) (fun c => ?_) <;> first | (have c := of_decide_eq_true c) | (have c := of_decide_eq_false c) | skip))
local macro_rules | `(tactic| purse 7022 => fail) => `(tactic| ((purse 7018 => fail); (purse 7012 => fail); try ((purse 7021 => fail) <;> (purse 7022 => fail))))

local macro_rules | `(tactic| purse 7001 => fail) => `(tactic| first
  | (with_reducible refine use_wholeI ?_)
  | (with_reducible refine g_pow10_9 ?_)
  | ((with_reducible refine' use_time ?a0 ?a1 ?_); (case a0 => (purse 7011 => fail)); (case a1 => (purse 7011 => fail))))

/-! rows: the law's row -/
theorem fnd_self {as : List Ar} (nd : (as.map pr).Nodup) {a : Ar} (h : a ∈ as) : fnd as (a.s : Nat) (a.g : Nat) = some a := by
  induction as with
  | nil => cases h
  | cons b r ih =>
    unfold fnd
    rw [List.find?_cons]
    by_cases e : ((b.s : Nat) : Int) = (a.s : Nat) ∧ ((b.g : Nat) : Int) = (a.g : Nat)
    · rw [decide_eq_true e.1, decide_eq_true e.2]
      rcases List.mem_cons.mp h with rfl | h
      · rfl
      · exfalso
        rw [List.map_cons, List.nodup_cons] at nd
        exact nd.1 (List.mem_map.mpr ⟨a, h, by unfold pr; rw [e.1, e.2]⟩)
    · have e2 : (decide (((b.s : Nat) : Int) = (a.s : Nat)) && decide (((b.g : Nat) : Int) = (a.g : Nat))) = false := by
        rw [Bool.eq_false_iff]
        intro z
        rw [Bool.and_eq_true, decide_eq_true_iff, decide_eq_true_iff] at z
        exact e z
      rw [e2]
      rcases List.mem_cons.mp h with rfl | h
      · exact absurd ⟨rfl, rfl⟩ e
      · rw [List.map_cons, List.nodup_cons] at nd
        exact ih nd.2 h
theorem chn_two {as : List Ar} {p q : Int × Int} {r : Row} : chn as (p :: q :: r) = (fol2 as p q && chn as (q :: r)) := rfl
theorem chn_snoc {as : List Ar} {q q' : Int × Int} : ∀ {r : Row}, chn as (r ++ [q, q']) = (chn as (r ++ [q]) && fol2 as q q')
  | [] => by show (fol2 as q q' && true) = (true && fol2 as q q'); rw [Bool.and_true, Bool.true_and]
  | [p] => by show (fol2 as p q && (fol2 as q q' && true)) = ((fol2 as p q && true) && fol2 as q q'); rw [Bool.and_true, Bool.and_true]
  | p :: p' :: r => by
    have ih := chn_snoc (as := as) (q := q) (q' := q') (r := p' :: r)
    show (fol2 as p p' && chn as ((p' :: r) ++ [q, q'])) = ((fol2 as p p' && chn as ((p' :: r) ++ [q])) && fol2 as q q')
    rw [ih, Bool.and_assoc]
theorem right_snoc {ns : List (List V)} {as : List Ar} {q q' : Int × Int} {r : Row} (h : rightB ns as (r ++ [q]) = true) (f : fol2 as q q' = true) : rightB ns as (r ++ [q] ++ [q']) = true := by
  rw [List.append_assoc]
  have hc := chn_snoc (as := as) (q := q) (q' := q') (r := r)
  cases r with
  | nil =>
    have h' : (mkAt ns q.1.toNat && chn as [q]) = true := h
    show (mkAt ns q.1.toNat && chn as ([] ++ [q, q'])) = true
    rw [Bool.and_eq_true] at h' ⊢
    exact ⟨h'.1, by rw [hc, Bool.and_eq_true]; exact ⟨h'.2, f⟩⟩
  | cons p r =>
    have h' : (mkAt ns p.1.toNat && chn as ((p :: r) ++ [q])) = true := h
    show (mkAt ns p.1.toNat && chn as ((p :: r) ++ [q, q'])) = true
    rw [Bool.and_eq_true] at h' ⊢
    exact ⟨h'.1, by rw [hc, Bool.and_eq_true]; exact ⟨h'.2, f⟩⟩
theorem some_mk {ns : List (List V)} {as : List Ar} {n : Nat} (h : Rch ns as n) : ∃ k, k < ns.length ∧ mkAt ns k = true := by
  induction h with
  | mk e m => exact ⟨_, (List.getElem?_eq_some_iff.mp e).1, by unfold mkAt; rw [e]; exact m⟩
  | go _ _ ih => exact ih
theorem fol_self {as : List Ar} (nd : (as.map pr).Nodup) {a : Ar} (h : a ∈ as) {t t' : Int} (h1 : a.l ≤ t' - t) (h2 : ∀ u, a.m = some u → t' - t ≤ u) : fol2 as ((a.s : Nat), t) ((a.g : Nat), t') = true := by
  show folB as (a.s : Nat) (a.g : Nat) t t' = true
  unfold folB
  rw [fnd_self nd h]
  show (decide (a.l ≤ t' - t) && _) = true
  rw [decide_eq_true h1]
  cases em : a.m with
  | none => rfl
  | some u => exact decide_eq_true (h2 u em)
structure RowOk (ns : List (List V)) (as : List Ar) (row : Row) (k : Int) : Prop where
  ri : rightB ns as row = true
  nd : ∀ q ∈ row, 0 ≤ q.1 ∧ q.1 < (ns.length : Int)
  lo : ∀ q ∈ row, -1000 ≤ q.2
  hi : ∀ q ∈ row, q.2 ≤ 1000 + 2000000000 * k
  len : (row.length : Int) ≤ 1 + k
def onq (q : Int × Int) (b : Ar) : Bool := decide (((b.s : Nat) : Int) = q.1)
theorem RowOk.mono {ns : List (List V)} {as : List Ar} {row : Row} {k k' : Int} (h : RowOk ns as row k) (le : k ≤ k') : RowOk ns as row k' :=
  ⟨h.ri, h.nd, h.lo, fun q hq => by have := h.hi q hq; omega, by have := h.len; omega⟩
theorem RowOk.put {ns : List (List V)} {as : List Ar} {r0 : Row} {q q' : Int × Int} {i : Nat} (h : RowOk ns as (r0 ++ [q]) i) (f : fol2 as q q' = true) (n : 0 ≤ q'.1 ∧ q'.1 < (ns.length : Int)) (lo : -1000 ≤ q'.2) (hi : q'.2 ≤ 1000 + 2000000000 * ((i + 1 : Nat) : Int)) : RowOk ns as ((r0 ++ [q]) ++ [q']) ((i + 1 : Nat) : Int) :=
  ⟨right_snoc h.ri f, fun y hy => (List.mem_append.mp hy).elim (h.nd y) fun z => by rw [List.mem_singleton.mp z]; exact n, fun y hy => (List.mem_append.mp hy).elim (h.lo y) fun z => by rw [List.mem_singleton.mp z]; exact lo, fun y hy => (List.mem_append.mp hy).elim (fun z => by have := h.hi y z; omega) fun z => by rw [List.mem_singleton.mp z]; exact hi, by have := h.len; rw [List.length_append, List.length_singleton]; omega⟩
def spRowL : Sp := fun vs H Q _ => ∃ (s pl N A' : Addr) (ps ws : List V) (ns : List (List V)) (as : List Ar) (st : Int), vs = [.ref s, .ref pl, .int 8, .int st, .int 1000000000] ∧ Src H s ∧ H pl = some (.tup [.ref N, .ref A']) ∧ Nst H N ps ns ∧ Nst H A' ws (as.map v5) ∧ N ≠ s ∧ A' ≠ s ∧ WOk ns as ∧ -100 ≤ st ∧ st ≤ 100 ∧
  ∀ r xs row H', UpX s H H' → Src H' s → H' r = some (.tup xs) → Tls H' xs (row.map stV) → RowOk ns as row 8 → Q (.ref r) H'
section
open He
variable {P : Program} {w : World} {K : PySem.W.Frag} {mg : Str → Option Value} {base : Heap} {f : Addr} {fd : FuncData}
theorem ok_rowL (F : FnP K "_law_row" "_law_row" s_law_row f fd) (T : TWl K mg) (D_law_draw : Dn P w K mg base 2 (ga K "_law_draw") ["source", "amount"] spDraw) (D_law_pick : Dn P w K mg base 4 (ga K "_law_pick") ["source", "items"] spPick) :
    FnOk P w K mg base (L2.CX P w) 6 f fd ["source", "plan", "most", "start", "longest"] spRowL := by
  refine F.ok c_law_row (fun vs H Q E h => ?_) (fun cdv A outer s H vs Q E hr h => ⟨_, pss_cons (ps_asg (pv 1) (pg_tup (n := 2) rfl (pgs_cons (pg_name (i := 5) c_law_row.nd rfl (Or.inr rfl)) (pgs_cons (pg_name (i := 6) c_law_row.nd rfl (Or.inl rfl)) (pgs_nil)))))
      (pss_cons (ps_setLc (i := 7) (own := [("node", 14)]) (g := gName 14) rfl c_law_row.nd rfl rfl (sw_true rfl rfl rfl rfl) (pi_range1 rfl T.z_range (pa_cons (pe_callB cl_len (by rfl) T.z_len (by decide +kernel) (pa_cons (pv 5) (pa_nil))) (pa_nil))) (blkOk_by (own := [("node", 14)]) (N := ["source", "plan", "most", "start", "longest", "nodes", "arrows", "some", "found", "turn", "arrow", "onward", "top", "time", "node"]) (sc := defScope s_law_row) (by decide +kernel)) (fun _ _ _ _ _ => pg_name (i := 14) c_law_row.nd rfl (Or.inl rfl)) (fun _ _ _ _ _ => pts_one (pt_cmpR (op_in_seqK (K := K)) (pe_ix (ix_tupK (K := K)) (pe_ix (ix_listK (K := K)) (pv 5) (pv 14) (fun _ _ => rfl)) (pe_int) (fun _ _ => rfl)) (pe_tup (pa_cons (pe_str) (pa_cons (pe_str) (pa_nil)))) (by rfl))) (fun _ _ _ _ _ => pv 14))
      (pss_cons (ps_set (i := 8) c_law_row.nd rfl (Or.inr rfl) (pe_tup (pa_cons (pe_tup (pa_cons (pe_dn D_law_pick (rm hr) rfl T.g_law_pick (passes_call (takes_of rfl rfl rfl rfl) fun _ _ _ _ h => h) (pa_cons (pv 0) (pa_cons (pv 7) (pa_nil)))) (pa_cons (pv 3) (pa_nil)))) (pa_nil))))
      (pss_cons (ps_for (passes_of rfl) rfl (pi_range1 rfl T.z_range (pa_cons (pe_dn D_law_draw (rm hr) rfl T.g_law_draw (passes_call (takes_of rfl rfl rfl rfl) fun _ _ _ _ h => h) (pa_cons (pv 0) (pa_cons (pv 2) (pa_nil)))) (pa_nil))) (pg_name (i := 9) c_law_row.nd rfl (Or.inl rfl))
      (pss_cons (ps_setLc (i := 11) (own := [("arrow", 10)]) (g := gName 10) rfl c_law_row.nd rfl rfl (sw_true rfl rfl rfl rfl) (pi_list (pv 6)) (blkOk_by (own := [("arrow", 10)]) (N := ["source", "plan", "most", "start", "longest", "nodes", "arrows", "some", "found", "turn", "arrow", "onward", "top", "time", "node"]) (sc := defScope s_law_row) (by decide +kernel)) (fun _ _ _ _ _ => pg_name (i := 10) c_law_row.nd rfl (Or.inl rfl)) (fun _ _ _ _ _ => pts_one (pt_cmpR op_eq (pe_ix (ix_tupK (K := K)) (pv 10) (pe_int) (fun _ _ => rfl)) (pe_ix (ix_tupK (K := K)) (pe_ix (ix_tupK (K := K)) (pv 8) (pe_un un_neg (pe_int)) (fun _ _ => rfl)) (pe_int) (fun _ _ => rfl)) (nomark _))) (fun _ _ _ _ _ => pv 10))
      (pss_one (ps_if (pt_cmpR (op_neD hr.units) (pv 11) (pe_lst (pa_nil)) (nomark _))
      (pss_cons (ps_set (i := 10) c_law_row.nd rfl (Or.inl rfl) (pe_dn D_law_pick (rm hr) rfl T.g_law_pick (passes_call (takes_of rfl rfl rfl rfl) fun _ _ _ _ h => h) (pa_cons (pv 0) (pa_cons (pv 11) (pa_nil)))))
      (pss_cons (ps_set (i := 12) c_law_row.nd rfl (Or.inl rfl) (pe_ix ix_tup (pv 10) (pe_int) (fun _ _ => rfl)))
      (pss_cons (ps_if (pt_cmpR op_isN (pv 12) (pe_non) (nomark _))
      (pss_one (ps_set (i := 12) c_law_row.nd rfl (Or.inl rfl) (pe_op op_add (pe_ix ix_tup (pv 10) (pe_int) (fun _ _ => rfl)) (pv 4))))
      (pss_nil))
      (pss_cons (ps_set (i := 13) c_law_row.nd rfl (Or.inl rfl) (pe_ix ix_list (pe_lst (pa_cons (pe_ix ix_tup (pv 10) (pe_int) (fun _ _ => rfl)) (pa_cons (pv 12) (pa_cons (pe_op op_add (pe_ix ix_tup (pv 10) (pe_int) (fun _ _ => rfl)) (pe_dn D_law_draw (rm hr) rfl T.g_law_draw (passes_call (takes_of rfl rfl rfl rfl) fun _ _ _ _ h => h) (pa_cons (pv 0) (pa_cons (pe_op op_add (pe_op op_sub (pv 12) (pe_ix ix_tup (pv 10) (pe_int) (fun _ _ => rfl))) (pe_int)) (pa_nil))))) (pa_nil))))) (pe_dn D_law_draw (rm hr) rfl T.g_law_draw (passes_call (takes_of rfl rfl rfl rfl) fun _ _ _ _ h => h) (pa_cons (pv 0) (pa_cons (pe_int) (pa_nil)))) (fun _ _ => rfl)))
      (pss_one (ps_set (i := 8) c_law_row.nd rfl (Or.inr rfl) (pe_op op_catT (pv 8) (pe_tup (pa_cons (pe_tup (pa_cons (pe_ix ix_tup (pv 10) (pe_int) (fun _ _ => rfl)) (pa_cons (pe_op op_add (pe_ix ix_tup (pe_ix ix_tup (pv 8) (pe_un un_neg (pe_int)) (fun _ _ => rfl)) (pe_int) (fun _ _ => rfl)) (pv 13)) (pa_nil)))) (pa_nil))))))))))
      (pss_nil)))))
      (pss_one (ps_ret (pv 8)))))), ?_⟩)
  · obtain ⟨s', pl, N, A', ps, ws, ns, as, st, rfl, _⟩ := h
    rfl
  · obtain ⟨s', pl, N, A', ps, ws, ns, as, st, rfl, hs, hpl, hN, hA, neN, neA, ok, st1, st2, k⟩ := h
    have hpn := hN.t.len
    have hwl := hA.t.len
    rw [List.length_map] at hwl
    have n2 := ok.n2
    have a1 := ok.a1
    (purse 7012 => fail)
    refine g_un2 (K := K) hpl ?_
    (purse 7012 => fail)
    refine g_lenl hN.h ?_
    (purse 7012 => fail)
    refine g_lcRD (fun _ => False) (fun D i acc H' => Up H H' ∧ acc = nts ((List.range i).filter (mkAt ns))) (n := ps.length) (fun _ z => z.elim) (by omega) (fun D hD => ⟨Up.new hD, rfl⟩) (fun D i acc H' ys zs hD hd h => ⟨Up.setF h.1 hD, h.2⟩) (fun D i acc H' hD hd hi hG R NN hR hN' => ⟨rfl, ?_⟩) fun D acc H1 hD hG hL hacc => ?_
    · obtain ⟨uH, rfl⟩ := hG
      have hin : i < ns.length := by omega
      obtain ⟨t, et, ht⟩ := (hN.up uH).t.at_ (List.getElem?_eq_getElem hin)
      obtain ⟨w0, ew, em⟩ := (ok.dd _ (List.getElem_mem hin)).fst
      have er := range_mk (List.getElem?_eq_getElem hin)
      rw [show (List.set (wipe [some (V.ref s'), some (V.ref pl), some (V.int 8), some (V.int st), some (V.int 1000000000), some (V.ref N), some (V.ref A'), none, none, none, none, none, none, none, none] (List.map (fun x => x.snd) [(Str.ofString "node", 14)])) 14 (some (V.int (i : Nat)))) = [some (V.ref s'), some (V.ref pl), some (V.int 8), some (V.int st), some (V.int 1000000000), some (V.ref N), some (V.ref A'), none, none, none, none, none, none, none, some (V.int (i : Nat))] from rfl]
      (purse 7012 => fail)
      refine g_ixQ (SqL.of (hN.up uH).h) (ai_nat et) ?_
      (purse 7012 => fail)
      refine g_ixT ht ew ?_
      (purse 7012 => fail)
      refine g_t0 (by rfl) fun px hpx => ?_
      refine g_inT (r := mkB ns[i]) upd_same rfl rfl em ?_
      have ux := Up.new (o := .tup [.str "make", .str "unpack"]) hpx
      generalize upd H' px (.tup [.str "make", .str "unpack"]) = H2 at ux ⊢
      (purse 7012 => fail)
      by_cases z : mkB ns[i] = true
      · rw [z]
        (purse 7015 => fail)
        (purse 7012 => fail)
        rw [if_pos z] at er
        exact hR _ _ ux.toS ⟨uH.trans ux, by rw [er, ints_app]⟩
      · rw [Bool.eq_false_iff.mpr z]
        (purse 7016 => fail)
        rw [if_neg z, List.append_nil] at er
        exact hN' _ ux.toS ⟨uH.trans ux, by rw [er]⟩
    obtain ⟨u1, rfl⟩ := hG
    obtain ⟨k0, hk0, mk0⟩ := some_mk (ok.rc 0 (by have := ok.n1; omega))
    have hs1 := hs.up u1
    have nD : D ≠ s' := fun z => by
      obtain ⟨_, _, q, _⟩ := hs
      rw [z, q] at hD; cases hD
    have nonempty : 1 ≤ (nts ((List.range ps.length).filter (mkAt ns))).length := by
      unfold nts
      rw [List.length_map]
      exact List.length_pos_of_mem (List.mem_filter.mpr ⟨List.mem_range.mpr (by omega), mk0⟩)
    (purse 7012 => fail)
    refine use_pickX hs1 hL nonempty (Nat.le_trans hacc (by omega)) nD fun v H2 hv u2 hs2 => ?_
    obtain ⟨nd0, hnd, rfl⟩ : ∃ nd0 : Nat, (nd0 < ns.length ∧ mkAt ns nd0 = true) ∧ v = .int (nd0 : Nat) := by
      obtain ⟨m, hm, e⟩ := List.mem_map.mp hv
      obtain ⟨h1, h2⟩ := List.mem_filter.mp hm
      exact ⟨m, ⟨by have := List.mem_range.mp h1; omega, h2⟩, e.symm⟩
    have u02 : UpX s' H H2 := u1.toX.trans u2
    have hN2 := hN.upX u02 neN hs.notup
    have hA2 := hA.upX u02 neA hs.notup
    (purse 7012 => fail)
    refine g_t0 (by rfl) fun p1 hp1 => ?_
    have v1 := Up.new (o := .tup [.int (nd0 : Nat), .int st]) hp1
    have q1 : upd H2 p1 (.tup [.int (nd0 : Nat), .int st]) p1 = some (.tup (stV ((nd0 : Int), st))) := upd_same
    generalize upd H2 p1 (.tup [.int (nd0 : Nat), .int st]) = H3 at v1 q1 ⊢
    (purse 7012 => fail)
    refine g_t0 (by rfl) fun p2' hp2 => ?_
    have v2 := Up.new (o := .tup [.ref p1]) hp2
    have q2 : upd H3 p2' (.tup [.ref p1]) p2' = some (.tup [.ref p1]) := upd_same
    have q1' := v2 _ _ q1
    generalize upd H3 p2' (.tup [.ref p1]) = H4 at v2 q2 q1' ⊢
    have v12 := v1.trans v2
    have u04 := u02.trans v12.toX
    have hs4 := hs2.up v12
    (purse 7012 => fail)
    refine use_drawX hs4 (by omega) (by omega) fun d H5 d0 d1 u5 hs5 => ?_
    obtain ⟨dn, rfl⟩ : ∃ dn : Nat, d = (dn : Int) := ⟨d.toNat, by omega⟩
    have R0 : RowOk ns as [((nd0 : Int), st)] 0 := ⟨by
      show (mkAt ns ((nd0 : Int).toNat) && true) = true
      rw [Int.toNat_natCast, hnd.2]; rfl, fun q hq => by rw [List.mem_singleton.mp hq]; exact ⟨by show (0 : Int) ≤ nd0; omega, by show (nd0 : Int) < _; omega⟩, fun q hq => by rw [List.mem_singleton.mp hq]; show -1000 ≤ st; omega, fun q hq => by rw [List.mem_singleton.mp hq]; show st ≤ _; omega, by simp⟩
    (purse 7012 => fail)
    rw [Int.toNat_natCast]
    refine g_loop (fun i σ' H' => ∃ (fo : Addr) (o9 o10 o11 o12 o13 : Option V) (ys : List V) (b : Addr) (r0 : Row) (q : Int × Int), σ' = [some (V.ref s'), some (V.ref pl), some (V.int 8), some (V.int st), some (V.int 1000000000), some (V.ref N), some (V.ref A'), some (V.ref D), some (V.ref fo), o9, o10, o11, o12, o13, none] ∧ UpX s' H H' ∧ Src H' s' ∧ H' fo = some (.tup (ys ++ [.ref b])) ∧ Tls H' (ys ++ [.ref b]) ((r0 ++ [q]).map stV) ∧ H' b = some (.tup (stV q)) ∧ RowOk ns as (r0 ++ [q]) i) ⟨p2', none, none, none, none, none, [], p1, [], _, rfl, u04.trans u5, hs5, u5 _ _ (hs4.ne q2) q2, .one (u5 _ _ (hs4.ne q1') q1'), u5 _ _ (hs4.ne q1') q1', R0⟩ ?_ ?_
    · rintro i σ' H6 hi ⟨fo, o9, o10, o11, o12, o13, ys, b, r0, q, rfl, uu, hs', h1, h2, h3, rk⟩
      have hN6 := hN.upX uu neN hs.notup
      have hA6 := hA.upX uu neA hs.notup
      have qin := rk.nd q (List.mem_append_right _ (.head _))
      have qlo := rk.lo q (List.mem_append_right _ (.head _))
      have qhi := rk.hi q (List.mem_append_right _ (.head _))
      have rlen := rk.len
      (purse 7012 => fail)
      refine g_lcLA (K := K) (xs := ws) (fun _ => False) (fun ii acc H' => Up H6 H' ∧ Tls H6 acc (((as.take ii).filter (onq q)).map v5)) (fun _ z => z.elim) (by omega) ⟨Up.rfl', .nil⟩ (fun ii acc H' p o hp h => ⟨Up.setF h.1 hp, h.2⟩) (fun ii acc H' h => SqL.of (h.1 _ _ hA6.h)) (fun ii acc H' x hx hG R NN hR hN' => ⟨rfl, ?_⟩) fun D2 acc H7 hD2 hG hL2 hacc2 => ?_
      · obtain ⟨uH, tls⟩ := hG
        obtain ⟨t', c, rfl, hc, hq0⟩ := Tls.getA hA6.t hx
        have hq := uH _ _ hq0
        have ef := take_fil (onq q) hc
        rw [show (List.set (wipe [some (V.ref s'), some (V.ref pl), some (V.int 8), some (V.int st), some (V.int 1000000000), some (V.ref N), some (V.ref A'), some (V.ref D), some (V.ref fo), some (V.int (i : Nat)), o10, o11, o12, o13, none] (List.map (fun x => x.snd) [(Str.ofString "arrow", 10)])) 10 (some (V.ref t'))) = [some (V.ref s'), some (V.ref pl), some (V.int 8), some (V.int st), some (V.int 1000000000), some (V.ref N), some (V.ref A'), some (V.ref D), some (V.ref fo), some (V.int (i : Nat)), some (V.ref t'), o11, o12, o13, none] from rfl]
        (purse 7012 => fail)
        refine g_ixT hq rfl ?_
        (purse 7012 => fail)
        refine g_ixT (uH _ _ h1) (atI_last _ _) ?_
        (purse 7012 => fail)
        refine g_ixT (uH _ _ h3) (v := .int q.1) rfl ?_
        (purse 7012 => fail)
        by_cases z : ((c.s : Nat) : Int) = q.1
        · rw [decide_eq_true z]
          (purse 7015 => fail)
          (purse 7012 => fail)
          rw [if_pos (show onq q c = true from decide_eq_true z)] at ef
          exact hR _ H' UpS.rfl' ⟨uH, by rw [ef, List.map_append]; exact tls.append (.one hq0)⟩
        · rw [decide_eq_false z]
          (purse 7016 => fail)
          rw [if_neg (show ¬ onq q c = true by rw [show onq q c = false from decide_eq_false z]; decide), List.append_nil] at ef
          exact hN' H' UpS.rfl' ⟨uH, by rw [ef]; exact tls⟩
      obtain ⟨u7, tls⟩ := hG
      rw [hwl, List.take_length] at tls
      have tls7 := tls.up u7
      have fl : Flats ((as.filter (onq q)).map v5) := v5s_flat fun b hb => (ok.ok b (List.mem_filter.mp hb).1).hw
      (purse 7012 => fail)
      refine g_l0 (by rfl) fun pe hpe => ?_
      have ue := Up.new (o := .lst []) hpe
      have qe : upd H7 pe (.lst []) pe = some (.lst []) := upd_same
      have hL8 := ue _ _ hL2
      generalize upd H7 pe (.lst []) = H8 at ue qe hL8 ⊢
      have u68 := u7.trans ue
      have tls8 := tls7.up ue
      have hs8 := hs'.up u68
      have h18 := u68 _ _ h1
      have h38 := u68 _ _ h3
      have h28 := h2.up u68
      refine g_neLL (K := K) hL8 tls8 qe .nil fl (fun _ h => (nomatch h)) ?_
      by_cases em2 : (as.filter (onq q)).map v5 = []
      · rw [decide_eq_true em2]
        (purse 7012 => fail)
        (purse 7016 => fail)
        (purse 7012 => fail)
        exact ⟨fo, _, _, _, _, _, ys, b, r0, q, rfl, uu.trans u68.toX, hs8, h18, h28, h38, rk.mono (by omega)⟩
      · rw [decide_eq_false em2]
        (purse 7012 => fail)
        (purse 7015 => fail)
        (purse 7012 => fail)
        have nD2 : D2 ≠ s' := fun z => by
          obtain ⟨_, _, y, _⟩ := hs'
          rw [z, y] at hD2; cases hD2
        have accl := tls8.len
        refine use_pickX hs8 hL8 (by
          rw [accl]
          exact List.length_pos_iff.mpr em2) (Nat.le_trans hacc2 (by omega)) nD2 fun v H9 hv u9 hs9 => ?_
        obtain ⟨ta, xa, rfl, hxa, hta8⟩ := tls8.mem hv
        obtain ⟨a, haf, rfl⟩ := List.mem_map.mp hxa
        obtain ⟨ha, haq⟩ := List.mem_filter.mp haf
        have haq := of_decide_eq_true haq
        have hta := u9 _ _ (hs8.ne hta8) hta8
        have h19 := u9 _ _ (hs8.ne h18) h18
        have h39 := u9 _ _ (hs8.ne h38) h38
        have h29 := h28.upX u9 hs8.notup
        have u69 : UpX s' H H9 := (uu.trans u68.toX).trans u9
        have okA := ok.ok a ha
        have al1 := okA.h1
        have al2 := okA.h2
        (purse 7012 => fail)
        refine g_ixT hta rfl ?_
        (purse 7012 => fail)
        refine ⟨rfl, ?_⟩
        cases ema : a.m with
        | none =>
          (purse 7012 => fail)
          (purse 7015 => fail)
          (purse 7012 => fail)
          refine g_ixT hta rfl ?_
          (purse 7012 => fail)
          refine g_ixT hta rfl ?_
          (purse 7012 => fail)
          refine g_ixT hta rfl ?_
          (purse 7012 => fail)
          refine g_ixT hta rfl ?_
          (purse 7012 => fail)
          refine use_drawX hs9 (by omega) (by omega) fun d Ha d0 d1 ua hsa => ?_
          have htaa := ua _ _ (hs9.ne hta) hta
          have h1a := ua _ _ (hs9.ne h19) h19
          have h3a := ua _ _ (hs9.ne h39) h39
          have h2a := h29.upX ua hs9.notup
          (purse 7012 => fail)
          refine g_l0 (by rfl) fun pq hpq => ?_
          have uq := Up.new (o := .lst [.int a.l, .int (a.l + 1000000000), .int (a.l + d)]) hpq
          have qq : upd Ha pq (.lst [.int a.l, .int (a.l + 1000000000), .int (a.l + d)]) pq = some (.lst [.int a.l, .int (a.l + 1000000000), .int (a.l + d)]) := upd_same
          generalize upd Ha pq (.lst [.int a.l, .int (a.l + 1000000000), .int (a.l + d)]) = Hb at uq qq ⊢
          have hsb := hsa.up uq
          have nq : pq ≠ s' := fun z => by
            obtain ⟨_, _, y, _⟩ := hsa
            rw [z, y] at hpq; cases hpq
          (purse 7012 => fail)
          refine use_drawX hsb (by omega) (by omega) fun d3 Hc d30 d31 uc hsc => ?_
          obtain ⟨tm, etm, g1, g2⟩ : ∃ tm : Int, atI [V.int a.l, .int (a.l + 1000000000), .int (a.l + d)] d3 = some (.int tm) ∧ a.l ≤ tm ∧ tm ≤ a.l + 1000000000 := by
            rcases (show d3 = 0 ∨ d3 = 1 ∨ d3 = 2 by omega) with rfl | rfl | rfl
            · exact ⟨_, rfl, by omega, by omega⟩
            · exact ⟨_, rfl, by omega, by omega⟩
            · exact ⟨_, rfl, by omega, by omega⟩
          refine g_ixQ (SqL.of (uc _ _ nq qq)) etm ?_
          have htac := uc _ _ (hsb.ne (uq _ _ htaa)) (uq _ _ htaa)
          have h1c := uc _ _ (hsb.ne (uq _ _ h1a)) (uq _ _ h1a)
          have h3c := uc _ _ (hsb.ne (uq _ _ h3a)) (uq _ _ h3a)
          have h2c := (h2a.up uq).upX uc hsb.notup
          have u6c : UpX s' H Hc := ((u69.trans ua).trans uq.toX).trans uc
          (purse 7012 => fail)
          refine g_ixT htac rfl ?_
          (purse 7012 => fail)
          refine g_ixT h1c (atI_last _ _) ?_
          (purse 7012 => fail)
          refine g_ixT h3c (v := .int q.2) rfl ?_
          (purse 7012 => fail)
          refine g_t0 (by rfl) fun pr1 hpr1 => ?_
          have w1 := Up.new (o := .tup [.int (a.g : Nat), .int (q.2 + tm)]) hpr1
          have x1 : upd Hc pr1 (.tup [.int (a.g : Nat), .int (q.2 + tm)]) pr1 = some (.tup (stV ((a.g : Nat), q.2 + tm))) := upd_same
          generalize upd Hc pr1 (.tup [.int (a.g : Nat), .int (q.2 + tm)]) = Hd at w1 x1 ⊢
          (purse 7012 => fail)
          refine g_t0 (by rfl) fun pr2 hpr2 => ?_
          have w2 := Up.new (o := .tup [.ref pr1]) hpr2
          have x2 : upd Hd pr2 (.tup [.ref pr1]) pr2 = some (.tup [.ref pr1]) := upd_same
          have x1' := w2 _ _ x1
          generalize upd Hd pr2 (.tup [.ref pr1]) = He' at w2 x2 x1' ⊢
          have w12 := w1.trans w2
          have ylen := h2c.len
          rw [List.length_map, List.length_append, List.length_append, List.length_singleton, List.length_singleton] at ylen
          rw [List.length_append, List.length_singleton] at rlen
          refine g_catT (K := K) (w12 _ _ h1c) x2 (by simp) (by simp) (by rw [List.length_append, List.length_singleton, List.length_singleton]; omega) fun pr3 hpr3 => ?_
          have w3' := Up.new (o := .tup ((ys ++ [.ref b]) ++ [.ref pr1])) hpr3
          have w123 := w12.trans w3'
          (purse 7012 => fail)
          have fq : fol2 as q ((a.g : Nat), q.2 + tm) = true := by
            have := fol_self (t := q.2) (t' := q.2 + tm) ok.nd ha (by omega) (fun u' hu' => by rw [ema] at hu'; cases hu')
            rw [show (((a.s : Nat) : Int), q.2) = q from Prod.ext haq rfl] at this
            exact this
          refine ⟨pr3, _, _, _, _, _, ys ++ [.ref b], pr1, r0 ++ [q], ((a.g : Nat), q.2 + tm), rfl, u6c.trans w123.toX, hsc.up w123, upd_same, ?_, w3' _ _ x1', ?_⟩
          · rw [List.map_append]
            exact (h2c.up w123).append (.one (w3' _ _ x1'))
          · exact rk.put fq (by have := okA.hg; show (0 : Int) ≤ (a.g : Nat) ∧ ((a.g : Nat) : Int) < _; omega) (by show -1000 ≤ q.2 + tm; omega) (by show q.2 + tm ≤ _; omega)
        | some u =>
          have hu := okA.hm u ema
          rw [show ov (some u) = V.int u from rfl]
          (purse 7012 => fail)
          (purse 7016 => fail)
          (purse 7012 => fail)
          refine g_ixT hta rfl ?_
          (purse 7012 => fail)
          refine g_ixT hta rfl ?_
          (purse 7012 => fail)
          refine g_ixT hta rfl ?_
          (purse 7012 => fail)
          refine use_drawX hs9 (by omega) (by omega) fun d Ha d0 d1 ua hsa => ?_
          have htaa := ua _ _ (hs9.ne hta) hta
          have h1a := ua _ _ (hs9.ne h19) h19
          have h3a := ua _ _ (hs9.ne h39) h39
          have h2a := h29.upX ua hs9.notup
          (purse 7012 => fail)
          refine g_l0 (by rfl) fun pq hpq => ?_
          have uq := Up.new (o := .lst [.int a.l, .int (u), .int (a.l + d)]) hpq
          have qq : upd Ha pq (.lst [.int a.l, .int (u), .int (a.l + d)]) pq = some (.lst [.int a.l, .int (u), .int (a.l + d)]) := upd_same
          generalize upd Ha pq (.lst [.int a.l, .int (u), .int (a.l + d)]) = Hb at uq qq ⊢
          have hsb := hsa.up uq
          have nq : pq ≠ s' := fun z => by
            obtain ⟨_, _, y, _⟩ := hsa
            rw [z, y] at hpq; cases hpq
          (purse 7012 => fail)
          refine use_drawX hsb (by omega) (by omega) fun d3 Hc d30 d31 uc hsc => ?_
          obtain ⟨tm, etm, g1, g2⟩ : ∃ tm : Int, atI [V.int a.l, .int (u), .int (a.l + d)] d3 = some (.int tm) ∧ a.l ≤ tm ∧ tm ≤ u := by
            rcases (show d3 = 0 ∨ d3 = 1 ∨ d3 = 2 by omega) with rfl | rfl | rfl
            · exact ⟨_, rfl, by omega, by omega⟩
            · exact ⟨_, rfl, by omega, by omega⟩
            · exact ⟨_, rfl, by omega, by omega⟩
          refine g_ixQ (SqL.of (uc _ _ nq qq)) etm ?_
          have htac := uc _ _ (hsb.ne (uq _ _ htaa)) (uq _ _ htaa)
          have h1c := uc _ _ (hsb.ne (uq _ _ h1a)) (uq _ _ h1a)
          have h3c := uc _ _ (hsb.ne (uq _ _ h3a)) (uq _ _ h3a)
          have h2c := (h2a.up uq).upX uc hsb.notup
          have u6c : UpX s' H Hc := ((u69.trans ua).trans uq.toX).trans uc
          (purse 7012 => fail)
          refine g_ixT htac rfl ?_
          (purse 7012 => fail)
          refine g_ixT h1c (atI_last _ _) ?_
          (purse 7012 => fail)
          refine g_ixT h3c (v := .int q.2) rfl ?_
          (purse 7012 => fail)
          refine g_t0 (by rfl) fun pr1 hpr1 => ?_
          have w1 := Up.new (o := .tup [.int (a.g : Nat), .int (q.2 + tm)]) hpr1
          have x1 : upd Hc pr1 (.tup [.int (a.g : Nat), .int (q.2 + tm)]) pr1 = some (.tup (stV ((a.g : Nat), q.2 + tm))) := upd_same
          generalize upd Hc pr1 (.tup [.int (a.g : Nat), .int (q.2 + tm)]) = Hd at w1 x1 ⊢
          (purse 7012 => fail)
          refine g_t0 (by rfl) fun pr2 hpr2 => ?_
          have w2 := Up.new (o := .tup [.ref pr1]) hpr2
          have x2 : upd Hd pr2 (.tup [.ref pr1]) pr2 = some (.tup [.ref pr1]) := upd_same
          have x1' := w2 _ _ x1
          generalize upd Hd pr2 (.tup [.ref pr1]) = He' at w2 x2 x1' ⊢
          have w12 := w1.trans w2
          have ylen := h2c.len
          rw [List.length_map, List.length_append, List.length_append, List.length_singleton, List.length_singleton] at ylen
          rw [List.length_append, List.length_singleton] at rlen
          refine g_catT (K := K) (w12 _ _ h1c) x2 (by simp) (by simp) (by rw [List.length_append, List.length_singleton, List.length_singleton]; omega) fun pr3 hpr3 => ?_
          have w3' := Up.new (o := .tup ((ys ++ [.ref b]) ++ [.ref pr1])) hpr3
          have w123 := w12.trans w3'
          (purse 7012 => fail)
          have fq : fol2 as q ((a.g : Nat), q.2 + tm) = true := by
            have := fol_self (t := q.2) (t' := q.2 + tm) ok.nd ha (by omega) (fun u' hu' => by rw [ema] at hu'; cases hu'; omega)
            rw [show (((a.s : Nat) : Int), q.2) = q from Prod.ext haq rfl] at this
            exact this
          refine ⟨pr3, _, _, _, _, _, ys ++ [.ref b], pr1, r0 ++ [q], ((a.g : Nat), q.2 + tm), rfl, u6c.trans w123.toX, hsc.up w123, upd_same, ?_, w3' _ _ x1', ?_⟩
          · rw [List.map_append]
            exact (h2c.up w123).append (.one (w3' _ _ x1'))
          · exact rk.put fq (by have := okA.hg; show (0 : Int) ≤ (a.g : Nat) ∧ ((a.g : Nat) : Int) < _; omega) (by show -1000 ≤ q.2 + tm; omega) (by show q.2 + tm ≤ _; omega)
    · rintro σ' H' ⟨fo, o9, o10, o11, o12, o13, ys, b, r0, q, rfl, uu, hs', h1, h2, h3, rk⟩
      (purse 7012 => fail)
      exact k fo _ _ H' uu hs' h1 h2 ⟨rk.ri, rk.nd, rk.lo, fun y hy => by have := rk.hi y hy; omega, by have := rk.len; omega⟩
end

end KW
namespace KW
open PySem PySem.Spec PyProof.Rows L2 AF RZ
open K1
open C8 (pe_gc)
def mt (p q : Nat) (b : Ar) : Bool := decide (p2 b = p2 ⟨p, q, 0, none, ""⟩)
local macro_rules | `(tactic| purse 7003 => fail) => `(tactic| k_dflt (refine Sh.has_ (by assumption) ?_; repeat (first | exact On.here | apply On.next)))
local macro_rules | `(tactic| purse 7004 => fail) => `(tactic| k_dflt (repeat (first | exact On.here | apply On.next)))
local macro_rules | `(tactic| purse 7005 => fail) => `(tactic| (repeat (first | exact Rep.here | apply Rep.next)))
local macro_rules | `(tactic| purse 7006 => fail) => `(tactic| (exact Sh.out (by assumption) (fun b h => by simp [h])))
local macro_rules | `(tactic| purse 7007 => fail) => `(tactic| k_dflt (first | ((with_reducible refine cdivw ?_ ?_) <;> omega) | ((with_reducible show CDiv _ _); constructor <;> omega) | ((with_reducible show CMul _ _); (first | (left; constructor <;> omega) | (right; constructor <;> omega))) | (show (0 : Int) < _; omega)))
local macro_rules | `(tactic| purse 7008 => fail) => `(tactic| first | exact Kd.int _ | exact Kd.bl _ | exact Kd.non | exact Kd.str _ | exact Kd.ins (by (purse 7003 => fail)) | exact Kd.lst (by (purse 7003 => fail)) | exact Kd.tup (by (purse 7003 => fail)))
local macro_rules | `(tactic| purse 7009 => fail) => `(tactic| first | exact DpAll.nil | (apply DpAll.cons; (purse 7010 => fail); (purse 7009 => fail)))
local macro_rules | `(tactic| purse 7010 => fail) => `(tactic| first | exact Dp.int _ | exact Dp.bl _ | exact Dp.non | exact Dp.str _ | (refine dp_int ?_; omega) | (refine dp_bl ?_; simp only [decide_eq_decide]; omega) | (apply dp_lst; (purse 7003 => fail); (purse 7009 => fail)) | (apply dp_tup; (purse 7003 => fail); (purse 7009 => fail)))
local macro_rules | `(tactic| purse 7011 => fail) => `(tactic| first | assumption | omega)
local macro_rules | `(tactic| purse 7001 => fail) => `(tactic| fail "no use")
local macro_rules | `(tactic| purse 7002 => fail) => `(tactic| first
  | (with_reducible refine set_go ?_)
  | (with_reducible refine Step.go ?_)
  | (with_reducible first | refine g_pow10_6 ?_ | refine g_pow10_7 ?_ | refine g_pow10_18 ?_ | refine g_pow10_29 ?_ | refine g_pow10_30 ?_)
  | ((with_reducible refine' g_I ?a0 ?_); (case a0 => (purse 7007 => fail)))
  | ((with_reducible refine' g_ixL ?a0 ?a1 ?_); (case a0 => (purse 7003 => fail)); (case a1 => k_dflt (exact rfl)))
  | ((with_reducible refine' g_kfld ?a0 ?a1 ?a2 ?a3 ?_); (case a0 => (purse 7003 => fail)); (case a1 => k_dflt (assumption)); (case a2 => k_dflt (assumption)); (case a3 => k_dflt (exact rfl)))
  | ((with_reducible refine' g_kprop ?a0 ?_); (case a0 => (purse 7003 => fail)))
  | ((with_reducible refine' g_kmeth ?a0 ?a1 ?_); (case a0 => (purse 7003 => fail)); (case a1 => k_dflt (exact rfl)))
  | ((with_reducible refine' g_own ?a0 ?a1 ?a2 ?_); (case a0 => (purse 7003 => fail)); (case a1 => (purse 7008 => fail)); (case a2 => k_dflt (assumption)))
  | ((with_reducible refine' g_cmp ?a0 ?a1 ?a2 ?_); (case a0 => (purse 7003 => fail)); (case a1 => (purse 7008 => fail)); (case a2 => k_dflt (assumption)))
  | ((with_reducible refine' g_neq ?a0 ?a1 ?a2 ?_); (case a0 => (purse 7003 => fail)); (case a1 => (purse 7008 => fail)); (case a2 => k_dflt (assumption)))
  | ((with_reducible refine' g_right ?a0 ?_); (case a0 => (purse 7003 => fail)))
  | ((with_reducible refine' use_draw ?a0 ?a1 ?a2 ?a3 ?a4 ?_); (case a0 => assumption); (case a1 => intro _ _; (purse 7005 => fail)); (case a2 => assumption); (case a3 => (purse 7011 => fail)); (case a4 => (purse 7011 => fail)); intro _ _ _ _ _ _ _ _)
  | ((with_reducible refine' use_giveI ?a0 ?a1 ?a2 ?_); (case a0 => assumption); (case a1 => intro _ _; (purse 7005 => fail)); (case a2 => assumption); intro _ _ _ _ _ _ _ _)
  | ((with_reducible refine' use_source ?a0 ?a1 ?_); (case a0 => assumption); (case a1 => k_dflt (assumption)); intro _ _ _ _ _ _)
  | (with_reducible refine g_absN ?_; intro _ _)
  | (with_reducible refine g_maxN ?_; intro _ _ _ _)
  | (with_reducible refine g_minN ?_; intro _ _ _ _)
  | ((with_reducible refine' g_kR1 ?a0 ?a1 ?_); (case a0 => omega); (case a1 => omega))
  | ((with_reducible refine' g_neD ?a0 ?a1 ?a2 ?_); (case a0 => (purse 7010 => fail)); (case a1 => (purse 7010 => fail)); (case a2 => k_dflt (rfl)))
  | ((with_reducible refine' g_eqD ?a0 ?a1 ?a2 ?_); (case a0 => (purse 7010 => fail)); (case a1 => (purse 7010 => fail)); (case a2 => k_dflt (rfl)))
  | ((with_reducible refine' g_klst ?a0 ?a1 ?_); (case a0 => assumption); (case a1 => k_dflt (exact rfl)); intro _ _ _ _)
  | ((with_reducible refine' g_ktup ?a0 ?a1 ?_); (case a0 => assumption); (case a1 => k_dflt (exact rfl)); intro _ _ _ _)
  | ((with_reducible refine' g_setL ?a0 ?a1 ?a2 ?_); (case a0 => assumption); (case a1 => (purse 7005 => fail)); (case a2 => k_dflt (exact rfl)); intro _ _)
  | ((with_reducible refine' g_unl3 ?a0 ?_); (case a0 => (purse 7003 => fail)))
  | (purse 7001 => fail))
local macro_rules | `(tactic| purse 7012 => fail) => `(tactic| ((try (with_reducible refine start_go ?_)); repeat (purse 7002 => fail)))
local macro_rules | `(tactic| purse 7013 => fail) => `(tactic| first | rfl | (refine decide_eq_true ?_; omega) | (simp only [Bool.not_eq_true', Bool.not_eq_false', decide_eq_false_iff_not, decide_eq_true_eq, Bool.not_not, decide_eq_decide]; done) | (simp only [Bool.not_eq_true', Bool.not_eq_false', decide_eq_false_iff_not, decide_eq_true_eq, Bool.not_not, decide_eq_decide]; omega))
local macro_rules | `(tactic| purse 7014 => fail) => `(tactic| first | rfl | (refine decide_eq_false ?_; omega) | (simp only [Bool.not_eq_true', Bool.not_eq_false', decide_eq_false_iff_not, decide_eq_true_eq, Bool.not_not, decide_eq_decide]; done) | (simp only [Bool.not_eq_true', Bool.not_eq_false', decide_eq_false_iff_not, decide_eq_true_eq, Bool.not_not, decide_eq_decide]; omega))
local macro_rules | `(tactic| purse 7015 => fail) => `(tactic| ((refine g_yes ?h ?_); (case h => (purse 7013 => fail))))
local macro_rules | `(tactic| purse 7016 => fail) => `(tactic| ((refine g_no ?h ?_); (case h => (purse 7014 => fail))))
local macro_rules | `(tactic| purse 7017 => fail) => `(tactic| first | (purse 7015 => fail) | (purse 7016 => fail))
local macro_rules | `(tactic| purse 7018 => fail) => `(tactic| repeat ((purse 7012 => fail); (purse 7017 => fail)))
local macro_rules | `(tactic| purse 7019 => fail) => `(tactic| repeat (first | exact intIn_nil | refine intIn_cons (by omega) (by omega) ?_))
local macro_rules | `(tactic| purse 7020 => fail) => `(tactic| (simp only [List.length_cons, List.length_nil]; omega))
local macro_rules | `(tactic| purse 7021 => fail) => `(tactic| (refine g_two (fun c => ?_) (fun c => ?_) <;> first | (have c := of_decide_eq_true c) | (have c := of_decide_eq_false c) | skip))
local macro_rules | `(tactic| purse 7022 => fail) => `(tactic| ((purse 7018 => fail); (purse 7012 => fail); try ((purse 7021 => fail) <;> (purse 7022 => fail))))

local macro_rules | `(tactic| purse 7001 => fail) => `(tactic| first
  | (with_reducible refine use_wholeI ?_)
  | (with_reducible refine g_pow10_9 ?_)
  | ((with_reducible refine' use_time ?a0 ?a1 ?_); (case a0 => (purse 7011 => fail)); (case a1 => (purse 7011 => fail))))

theorem fnd_fil (as : List Ar) (p q : Nat) : fnd as (p : Int) (q : Int) = (as.filter (mt p q)).head? := by
  rw [List.head?_filter]
  unfold fnd
  congr 1
  funext b
  unfold mt
  rw [Bool.eq_iff_iff, Bool.and_eq_true, decide_eq_true_iff, decide_eq_true_iff, decide_eq_true_iff]
  constructor
  · rintro ⟨e1, e2⟩
    unfold p2
    rw [e1, e2]
  · intro e
    injection e with e1 e2
    injection e2 with e3 _
    injection e1 with e1
    injection e3 with e3
    exact ⟨e1, e3⟩

/-! rows: the law's own answer -/
theorem chn_iff {as : List Ar} {row : Row} : chn as row = true ↔ ∀ j p q, row[j]? = some p → row[j + 1]? = some q → fol2 as p q = true := by
  unfold chn
  rw [List.all_eq_true]
  constructor
  · intro h j p q e1 e2
    refine h (p, q) (List.mem_of_getElem? (i := j) ?_)
    rw [List.getElem?_zip_eq_some]
    exact ⟨e1, by rw [List.getElem?_tail]; exact e2⟩
  · rintro h ⟨p, q⟩ hm
    obtain ⟨j, hj⟩ := List.getElem?_of_mem hm
    rw [List.getElem?_zip_eq_some, List.getElem?_tail] at hj
    exact h j p q hj.1 hj.2
theorem right_false {ns : List (List V)} {as : List Ar} {row : Row} {j : Nat} {p q : Int × Int} (e1 : row[j]? = some p) (e2 : row[j + 1]? = some q) (f : fol2 as p q = false) : rightB ns as row = false := by
  have c : chn as row = false := by
    rw [Bool.eq_false_iff]
    intro z
    rw [chn_iff.mp z j p q e1 e2] at f
    cases f
  cases row with
  | nil => rfl
  | cons y r => show (_ && chn as (y :: r)) = false; rw [c, Bool.and_false]
theorem stV_flat (row : Row) : Flats (row.map stV) := fun xs hx => by
  obtain ⟨q, _, rfl⟩ := List.mem_map.mp hx
  intro v hv
  unfold stV at hv
  simp only [List.mem_cons, List.not_mem_nil, or_false] at hv
  rcases hv with rfl | rfl <;> exact .inl ⟨_, rfl⟩
theorem Tls.atQ {H : Hp} {xs : List V} {row : Row} {i : Nat} {q : Int × Int} (tl : Tls H xs (row.map stV)) (e : row[i]? = some q) : ∃ b, xs[i]? = some (.ref b) ∧ H b = some (.tup (stV q)) := tl.at_ (by rw [List.getElem?_map, e]; rfl)
def spRight : Sp := fun vs H Q _ => ∃ (pl N A' r : Addr) (ps ws xs : List V) (ns : List (List V)) (as : List Ar) (row : Row), vs = [.ref pl, .ref r] ∧ H pl = some (.tup [.ref N, .ref A']) ∧ Nst H N ps ns ∧ Nst H A' ws (as.map v5) ∧ WOk ns as ∧ H r = some (.tup xs) ∧ Tls H xs (row.map stV) ∧ (∀ q ∈ row, 0 ≤ q.1 ∧ q.1 < (ns.length : Int)) ∧ row.length ≤ 60 ∧ ∀ H', Up H H' → Q (.bl (rightB ns as row)) H'
section
open He
variable {P : Program} {w : World} {K : PySem.W.Frag} {mg : Str → Option Value} {base : Heap} {f : Addr} {fd : FuncData}
theorem ok_right (F : FnP K "_law_right" "_law_right" s_law_right f fd) (T : TWl K mg) :
    FnOk P w K mg base (L2.CX P w) 2 f fd ["plan", "row"] spRight := by
  refine F.ok c_law_right (fun vs H Q E h => ?_) (fun cdv A outer s H vs Q E hr h => ⟨_, pss_cons (ps_asg (pv 0) (pg_tup (n := 2) rfl (pgs_cons (pg_name (i := 2) c_law_right.nd rfl (Or.inl rfl)) (pgs_cons (pg_name (i := 3) c_law_right.nd rfl (Or.inl rfl)) (pgs_nil)))))
      (pss_cons (ps_if (PW.pt (pw_or (pt_cmpR (op_eqD hr.units) (pv 1) (pe_tup (pa_nil)) (nomark _)) (pw_or1 (pt_cmpR op_notIn_seq (pe_ix ix_tup (pe_ix ix_list (pv 2) (pe_ix ix_tup (pe_ix ix_tup (pv 1) (pe_int) (fun _ _ => rfl)) (pe_int) (fun _ _ => rfl)) (fun _ _ => rfl)) (pe_int) (fun _ _ => rfl)) (pe_tup (pa_cons (pe_str) (pa_cons (pe_str) (pa_nil)))) (by rfl)))))
      (pss_one (ps_ret (pe_bl)))
      (pss_nil))
      (pss_cons (ps_for (passes_of rfl) rfl (pi_range1 rfl T.z_range (pa_cons (pe_op op_sub (pe_callB cl_len (by rfl) T.z_len (by decide +kernel) (pa_cons (pv 1) (pa_nil))) (pe_int)) (pa_nil))) (pg_name (i := 4) c_law_right.nd rfl (Or.inr rfl))
      (pss_cons (ps_set (i := 5) c_law_right.nd rfl (Or.inl rfl) (pe_op op_sub (pe_ix ix_tup (pe_ix ix_tup (pv 1) (pe_op op_add (pv 4) (pe_int)) (fun _ _ => rfl)) (pe_int) (fun _ _ => rfl)) (pe_ix ix_tup (pe_ix ix_tup (pv 1) (pv 4) (fun _ _ => rfl)) (pe_int) (fun _ _ => rfl))))
      (pss_cons (ps_setLc (i := 6) (own := [("arrow", 7)]) (g := gName 7) rfl c_law_right.nd rfl rfl (sw_true rfl rfl rfl rfl) (pi_list (pv 3)) (blkOk_by (own := [("arrow", 7)]) (N := ["plan", "row", "nodes", "arrows", "at", "time", "some", "arrow"]) (sc := defScope s_law_right) (by decide +kernel)) (fun _ _ _ _ _ => pg_name (i := 7) c_law_right.nd rfl (Or.inl rfl)) (fun _ _ _ _ _ => pts_one (pt_cmpR (op_eqDK (K := K) hr.units) (pe_slice (sl_tupK (K := K)) (pv 7) po_none (po_some (pe_int))) (pe_tup (pa_cons (pe_ix (ix_tupK (K := K)) (pe_ix (ix_tupK (K := K)) (pv 1) (pv 4) (fun _ _ => rfl)) (pe_int) (fun _ _ => rfl)) (pa_cons (pe_ix (ix_tupK (K := K)) (pe_ix (ix_tupK (K := K)) (pv 1) (pe_op op_add (pv 4) (pe_int)) (fun _ _ => rfl)) (pe_int) (fun _ _ => rfl)) (pa_nil)))) (nomark _))) (fun _ _ _ _ _ => pv 7))
      (pss_cons (ps_if (PW.pt (pw_or (pt_cmpR (op_eqD hr.units) (pv 6) (pe_lst (pa_nil)) (nomark _)) (pw_or1 (pt_cmpR op_lt (pv 5) (pe_ix ix_tup (pe_ix ix_list (pv 6) (pe_int) (fun _ _ => rfl)) (pe_int) (fun _ _ => rfl)) (nomark _)))))
      (pss_one (ps_ret (pe_bl)))
      (pss_nil))
      (pss_one (ps_if (PW.pt (pw_and (pt_cmpR op_notN (pe_ix ix_tup (pe_ix ix_list (pv 6) (pe_int) (fun _ _ => rfl)) (pe_int) (fun _ _ => rfl)) (pe_non) (nomark _)) (pw_and1 (pt_cmpR op_gt (pv 5) (pe_ix ix_tup (pe_ix ix_list (pv 6) (pe_int) (fun _ _ => rfl)) (pe_int) (fun _ _ => rfl)) (nomark _)))))
      (pss_one (ps_ret (pe_bl)))
      (pss_nil)))))))
      (pss_one (ps_ret (pe_bl))))), ?_⟩)
  · obtain ⟨pl, N, A', r, ps, ws, xs, ns, as, row, rfl, _⟩ := h
    rfl
  · obtain ⟨pl, N, A', r, ps, ws, xs, ns, as, row, rfl, hpl, hN, hA, ok, hr', tl, nd, few, k⟩ := h
    have hwl := hA.t.len
    rw [List.length_map] at hwl
    have hxl := tl.len
    rw [List.length_map] at hxl
    have a1 := ok.a1
    (purse 7012 => fail)
    refine g_un2 (K := K) hpl ?_
    (purse 7012 => fail)
    refine g_t0 (by rfl) fun pe hpe => ?_
    have ue := Up.new (o := .tup []) hpe
    have qe : upd H pe (.tup []) pe = some (.tup []) := upd_same
    generalize upd H pe (.tup []) = H1 at ue qe ⊢
    refine g_eqTT (K := K) (ue _ _ hr') (tl.up ue) qe .nil (stV_flat row) (fun _ h => (nomatch h)) ?_
    (purse 7012 => fail)
    cases row with
    | nil =>
      (purse 7015 => fail)
      (purse 7015 => fail)
      (purse 7012 => fail)
      exact k _ ue
    | cons q0 rr =>
      rw [show decide ((q0 :: rr).map stV = []) = false from rfl]
      (purse 7016 => fail)
      (purse 7012 => fail)
      have q00 := nd q0 (.head _)
      obtain ⟨qn, eqn⟩ : ∃ n : Nat, q0.1 = (n : Int) := ⟨q0.1.toNat, by omega⟩
      have hin : qn < ns.length := by omega
      obtain ⟨b0, eb0, hb0⟩ := Tls.atQ (tl.up ue) (i := 0) rfl
      obtain ⟨t, et, ht⟩ := (hN.up ue).t.at_ (List.getElem?_eq_getElem hin)
      obtain ⟨w0, ew, em⟩ := (ok.dd _ (List.getElem_mem hin)).fst
      refine g_ixT (ue _ _ hr') (i := 0) (ai_nat eb0) ?_
      (purse 7012 => fail)
      refine g_ixT hb0 (v := .int q0.1) rfl ?_
      rw [eqn]
      refine g_ixQ (SqL.of (hN.up ue).h) (ai_nat et) ?_
      (purse 7012 => fail)
      refine g_ixT ht ew ?_
      (purse 7012 => fail)
      refine g_t0 (by rfl) fun px hpx => ?_
      refine g_ninT (r := mkB ns[qn]) upd_same rfl rfl em ?_
      have ux := Up.new (o := .tup [.str "make", .str "unpack"]) hpx
      have u2 := ue.trans ux
      generalize upd H1 px (.tup [.str "make", .str "unpack"]) = H2 at ux u2 ⊢
      have emk : mkAt ns q0.1.toNat = mkB ns[qn] := by unfold mkAt; rw [eqn, Int.toNat_natCast, List.getElem?_eq_getElem hin]; rfl
      (purse 7012 => fail)
      cases mm : mkB ns[qn] with
      | false =>
        (purse 7015 => fail)
        (purse 7012 => fail)
        have e : rightB ns as (q0 :: rr) = false := by
          show (mkAt ns q0.1.toNat && chn as (q0 :: rr)) = false
          rw [emk, mm]; rfl
        rw [← e]
        exact k _ u2
      | true =>
        (purse 7016 => fail)
        (purse 7012 => fail)
        refine g_lent (u2 _ _ hr') ?_
        have xl1 : xs.length = rr.length + 1 := hxl
        have few' : rr.length + 1 ≤ 60 := few
        (purse 7012 => fail)
        rw [show ((xs.length : Nat) : Int) - 1 = ((rr.length : Nat) : Int) by omega, Int.toNat_natCast]
        refine g_loop (fun i σ' H' => ∃ (o4 o5 o6 : Option V), σ' = [some (V.ref pl), some (V.ref r), some (V.ref N), some (V.ref A'), o4, o5, o6, none] ∧ Up H H' ∧ ∀ j p q, j < i → (q0 :: rr)[j]? = some p → (q0 :: rr)[j + 1]? = some q → fol2 as p q = true) ⟨none, none, none, rfl, u2, fun _ _ _ z => absurd z (Nat.not_lt_zero _)⟩ ?_ ?_
        · rintro i σ' H3 hi ⟨o4, o5, o6, rfl, u3, good⟩
          have hA3 := hA.up u3
          have hr3 := u3 _ _ hr'
          have tl3 := tl.up u3
          obtain ⟨⟨p1, pt⟩, ep⟩ : ∃ p, (q0 :: rr)[i]? = some p := ⟨_, List.getElem?_eq_getElem (show i < (q0 :: rr).length by rw [List.length_cons]; omega)⟩
          obtain ⟨⟨p1', pt'⟩, ep'⟩ : ∃ p, (q0 :: rr)[i + 1]? = some p := ⟨_, List.getElem?_eq_getElem (show i + 1 < (q0 :: rr).length by rw [List.length_cons]; omega)⟩
          have n1 := nd _ (List.mem_of_getElem? ep)
          have n1' := nd _ (List.mem_of_getElem? ep')
          obtain ⟨pn, epn⟩ : ∃ n : Nat, p1 = (n : Int) := ⟨p1.toNat, by have := n1.1; omega⟩
          obtain ⟨pn', epn'⟩ : ∃ n : Nat, p1' = (n : Int) := ⟨p1'.toNat, by have := n1'.1; omega⟩
          subst epn epn'
          obtain ⟨b1, eb1, hb1⟩ := Tls.atQ tl3 ep
          obtain ⟨b2, eb2, hb2⟩ := Tls.atQ tl3 ep'
          have ai2 : atI xs ((i : Int) + 1) = some (.ref b2) := ai_nat (i := i + 1) eb2
          (purse 7012 => fail)
          refine g_ixT hr3 ai2 ?_
          (purse 7012 => fail)
          refine g_ixT hb2 (v := .int pt') rfl ?_
          (purse 7012 => fail)
          refine g_ixT hr3 (ai_nat eb1) ?_
          (purse 7012 => fail)
          refine g_ixT hb1 (v := .int pt) rfl ?_
          (purse 7012 => fail)
          refine g_lcLA (K := K) (xs := ws) (fun _ => False) (fun ii acc H' => Up H3 H' ∧ Tls H3 acc (((as.take ii).filter (mt pn pn')).map v5)) (fun _ z => z.elim) (by omega) ⟨Up.rfl', .nil⟩ (fun ii acc H' p o hp h => ⟨Up.setF h.1 hp, h.2⟩) (fun ii acc H' h => SqL.of (h.1 _ _ hA3.h)) (fun ii acc H' x hx hG R NN hR hN' => ⟨rfl, ?_⟩) fun D2 acc H7 hD2 hG hL2 hacc2 => ?_
          · obtain ⟨uH, tls⟩ := hG
            obtain ⟨t', c, rfl, hc, hq0⟩ := Tls.getA hA3.t hx
            have hq1 := uH _ _ hq0
            have ef := take_fil (mt pn pn') hc
            rw [show (List.set (wipe [some (V.ref pl), some (V.ref r), some (V.ref N), some (V.ref A'), some (V.int (i : Nat)), some (V.int (pt' - pt)), o6, none] (List.map (fun x => x.snd) [(Str.ofString "arrow", 7)])) 7 (some (V.ref t'))) = [some (V.ref pl), some (V.ref r), some (V.ref N), some (V.ref A'), some (V.int (i : Nat)), some (V.int (pt' - pt)), o6, some (V.ref t')] from rfl]
            (purse 7012 => fail)
            refine g_slN (K := K) hq1 (n := 2) (by show 2 < 5; decide) fun pk hpk => ?_
            have uk := Up.new (o := .tup ((v5 c).take 2)) hpk
            have hk : upd H' pk (.tup ((v5 c).take 2)) pk = some (.tup (p2 c)) := upd_same
            generalize upd H' pk (.tup ((v5 c).take 2)) = Hk at uk hk ⊢
            have uHk := uH.trans uk
            (purse 7012 => fail)
            refine g_ixT (uHk _ _ hr3) (ai_nat eb1) ?_
            (purse 7012 => fail)
            refine g_ixT (uHk _ _ hb1) (v := .int (pn : Nat)) rfl ?_
            (purse 7012 => fail)
            refine g_ixT (uHk _ _ hr3) ai2 ?_
            (purse 7012 => fail)
            refine g_ixT (uHk _ _ hb2) (v := .int (pn' : Nat)) rfl ?_
            (purse 7012 => fail)
            refine g_t0 (by rfl) fun pl' hpl' => ?_
            have um := Up.new (o := .tup [.int (pn : Nat), .int (pn' : Nat)]) hpl'
            refine ⟨datT (p2 c), datT (p2 ⟨pn, pn', 0, none, ""⟩), .tup (SqT.of (um _ _ hk)) (flats_dp (p2_flat _)), .tup (SqT.of upd_same) (flats_dp (p2_flat ⟨pn, pn', 0, none, ""⟩)), shp2 _, shp2 _, ?_⟩
            rw [show PyData.eqv (datT (p2 c)) (datT (p2 ⟨pn, pn', 0, none, ""⟩)) = mt pn pn' c from dats_eqv (p2_flat _) (p2_flat _)]
            have ukm := uk.trans um
            (purse 7012 => fail)
            by_cases z : mt pn pn' c = true
            · rw [z]
              (purse 7015 => fail)
              (purse 7012 => fail)
              rw [if_pos z] at ef
              exact hR _ _ ukm.toS ⟨uH.trans ukm, by rw [ef, List.map_append]; exact tls.append (.one hq0)⟩
            · rw [Bool.eq_false_iff.mpr z]
              (purse 7016 => fail)
              rw [if_neg z, List.append_nil] at ef
              exact hN' _ ukm.toS ⟨uH.trans ukm, by rw [ef]; exact tls⟩
          obtain ⟨u7, tls⟩ := hG
          rw [hwl, List.take_length] at tls
          have tls7 := tls.up u7
          have fl : Flats ((as.filter (mt pn pn')).map v5) := v5s_flat fun b hb => (ok.ok b (List.mem_filter.mp hb).1).hw
          have hf := fnd_fil as pn pn'
          (purse 7012 => fail)
          refine g_l0 (by rfl) fun pe2 hpe2 => ?_
          have ue2 := Up.new (o := .lst []) hpe2
          have qe2 : upd H7 pe2 (.lst []) pe2 = some (.lst []) := upd_same
          have hL8 := ue2 _ _ hL2
          generalize upd H7 pe2 (.lst []) = H8 at ue2 qe2 hL8 ⊢
          have u38 := u7.trans ue2
          have u08 := u3.trans u38
          have tls8 := tls7.up ue2
          refine g_eqLL (K := K) hL8 tls8 qe2 .nil fl (fun _ h => (nomatch h)) ?_
          cases ef : as.filter (mt pn pn') with
          | nil =>
            rw [ef] at hf
            have e : rightB ns as (q0 :: rr) = false := right_false ep ep' (by show folB as _ _ _ _ = false; unfold folB; rw [hf]; rfl)
            (purse 7012 => fail)
            (purse 7015 => fail)
            (purse 7015 => fail)
            (purse 7012 => fail)
            rw [← e]
            exact k _ u08
          | cons c rest =>
            rw [ef] at hf tls8
            have hf' : fnd as (pn : Int) (pn' : Int) = some c := hf
            have cm : c ∈ as := (List.mem_filter.mp (show c ∈ as.filter (mt pn pn') by rw [ef]; exact .head _)).1
            have fe : fol2 as ((pn : Int), pt) ((pn' : Int), pt') = (decide (c.l ≤ pt' - pt) && (match c.m with | none => true | some u => decide (pt' - pt ≤ u))) := by
              show folB as _ _ _ _ = _
              unfold folB
              rw [hf']
              all_goals rfl
            obtain ⟨tc, etc, htc⟩ := tls8.at_ (i := 0) rfl
            rw [show decide ((c :: rest).map v5 = []) = false from rfl]
            (purse 7012 => fail)
            (purse 7016 => fail)
            (purse 7012 => fail)
            refine g_ixQ (SqL.of hL8) (i := 0) (ai_nat etc) ?_
            (purse 7012 => fail)
            refine g_ixT htc (v := .int c.l) rfl ?_
            (purse 7012 => fail)
            by_cases z1 : pt' - pt < c.l
            · rw [decide_eq_true z1]
              (purse 7015 => fail)
              (purse 7012 => fail)
              have e : rightB ns as (q0 :: rr) = false := right_false ep ep' (by rw [fe, decide_eq_false (by omega)]; rfl)
              rw [← e]
              exact k _ u08
            · rw [decide_eq_false z1]
              (purse 7016 => fail)
              (purse 7012 => fail)
              refine g_ixQ (SqL.of hL8) (i := 0) (ai_nat etc) ?_
              (purse 7012 => fail)
              refine g_ixT htc rfl ?_
              (purse 7012 => fail)
              refine ⟨rfl, ?_⟩
              rw [decide_eq_true (show c.l ≤ pt' - pt by omega), Bool.true_and] at fe
              cases emc : c.m with
              | none =>
                rw [emc] at fe
                (purse 7012 => fail)
                (purse 7016 => fail)
                (purse 7016 => fail)
                (purse 7012 => fail)
                refine ⟨_, _, _, rfl, u08, fun j p q hj e1 e2 => ?_⟩
                by_cases ej : j = i
                · subst ej
                  rw [ep] at e1; rw [ep'] at e2
                  cases e1; cases e2
                  exact fe
                · exact good j p q (by omega) e1 e2
              | some u =>
                rw [emc] at fe
                rw [show ov (some u) = V.int u from rfl]
                (purse 7012 => fail)
                (purse 7015 => fail)
                (purse 7012 => fail)
                refine g_ixQ (SqL.of hL8) (i := 0) (ai_nat etc) ?_
                (purse 7012 => fail)
                refine g_ixT htc (v := .int u) (by show some (ov c.m) = _; rw [emc]; rfl) ?_
                (purse 7012 => fail)
                by_cases z2 : pt' - pt ≤ u
                · rw [decide_eq_false (show ¬ (pt' - pt > u) by omega)]
                  (purse 7016 => fail)
                  (purse 7012 => fail)
                  refine ⟨_, _, _, rfl, u08, fun j p q hj e1 e2 => ?_⟩
                  by_cases ej : j = i
                  · subst ej
                    rw [ep] at e1; rw [ep'] at e2
                    cases e1; cases e2
                    rw [fe]
                    exact decide_eq_true z2
                  · exact good j p q (by omega) e1 e2
                · rw [decide_eq_true (show pt' - pt > u by omega)]
                  (purse 7015 => fail)
                  (purse 7012 => fail)
                  have e : rightB ns as (q0 :: rr) = false := right_false ep ep' (by rw [fe]; exact decide_eq_false z2)
                  rw [← e]
                  exact k _ u08
        · rintro σ' H3 ⟨o4, o5, o6, rfl, u3, good⟩
          have c : chn as (q0 :: rr) = true := chn_iff.mpr fun j p q e1 e2 => good j p q (by
            have := (List.getElem?_eq_some_iff.mp e2).1
            rw [List.length_cons] at this
            omega) e1 e2
          have e : rightB ns as (q0 :: rr) = true := by
            show (mkAt ns q0.1.toNat && chn as (q0 :: rr)) = true
            rw [emk, mm, c]; rfl
          (purse 7012 => fail)
          rw [← e]
          exact k _ u3
end

end KW
namespace KW
open PySem PySem.Spec PyProof.Rows L2 AF RZ
open K1
open C8 (pe_gc)
local macro_rules | `(tactic| purse 7003 => fail) => `(tactic| k_dflt (refine Sh.has_ (by assumption) ?_; repeat (first | exact On.here | apply On.next)))
local macro_rules | `(tactic| purse 7004 => fail) => `(tactic| k_dflt (repeat (first | exact On.here | apply On.next)))
local macro_rules | `(tactic| purse 7005 => fail) => `(tactic| (repeat (first | exact Rep.here | apply Rep.next)))
local macro_rules | `(tactic| purse 7006 => fail) => `(tactic| (exact Sh.out (by assumption) (fun b h => by simp [h])))
local macro_rules | `(tactic| purse 7007 => fail) => `(tactic| k_dflt (first | ((with_reducible refine cdivw ?_ ?_) <;> omega) | ((with_reducible show CDiv _ _); constructor <;> omega) | ((with_reducible show CMul _ _); (first | (left; constructor <;> omega) | (right; constructor <;> omega))) | (show (0 : Int) < _; omega)))
local macro_rules | `(tactic| purse 7008 => fail) => `(tactic| first | exact Kd.int _ | exact Kd.bl _ | exact Kd.non | exact Kd.str _ | exact Kd.ins (by (purse 7003 => fail)) | exact Kd.lst (by (purse 7003 => fail)) | exact Kd.tup (by (purse 7003 => fail)))
local macro_rules | `(tactic| purse 7009 => fail) => `(tactic| first | exact DpAll.nil | (apply DpAll.cons; (purse 7010 => fail); (purse 7009 => fail)))
local macro_rules | `(tactic| purse 7010 => fail) => `(tactic| first | exact Dp.int _ | exact Dp.bl _ | exact Dp.non | exact Dp.str _ | (refine dp_int ?_; omega) | (refine dp_bl ?_; simp only [decide_eq_decide]; omega) | (apply dp_lst; (purse 7003 => fail); (purse 7009 => fail)) | (apply dp_tup; (purse 7003 => fail); (purse 7009 => fail)))
local macro_rules | `(tactic| purse 7011 => fail) => `(tactic| first | assumption | omega)
local macro_rules | `(tactic| purse 7001 => fail) => `(tactic| fail "no use")
local macro_rules | `(tactic| purse 7002 => fail) => `(tactic| first
  | (with_reducible refine set_go ?_)
  | (with_reducible refine Step.go ?_)
  | (with_reducible first | refine g_pow10_6 ?_ | refine g_pow10_7 ?_ | refine g_pow10_18 ?_ | refine g_pow10_29 ?_ | refine g_pow10_30 ?_)
  | ((with_reducible refine' g_I ?a0 ?_); (case a0 => (purse 7007 => fail)))
  | ((with_reducible refine' g_ixL ?a0 ?a1 ?_); (case a0 => (purse 7003 => fail)); (case a1 => k_dflt (exact rfl)))
  | ((with_reducible refine' g_kfld ?a0 ?a1 ?a2 ?a3 ?_); (case a0 => (purse 7003 => fail)); (case a1 => k_dflt (assumption)); (case a2 => k_dflt (assumption)); (case a3 => k_dflt (exact rfl)))
  | ((with_reducible refine' g_kprop ?a0 ?_); (case a0 => (purse 7003 => fail)))
  | ((with_reducible refine' g_kmeth ?a0 ?a1 ?_); (case a0 => (purse 7003 => fail)); (case a1 => k_dflt (exact rfl)))
  | ((with_reducible refine' g_own ?a0 ?a1 ?a2 ?_); (case a0 => (purse 7003 => fail)); (case a1 => (purse 7008 => fail)); (case a2 => k_dflt (assumption)))
  | ((with_reducible refine' g_cmp ?a0 ?a1 ?a2 ?_); (case a0 => (purse 7003 => fail)); (case a1 => (purse 7008 => fail)); (case a2 => k_dflt (assumption)))
  | ((with_reducible refine' g_neq ?a0 ?a1 ?a2 ?_); (case a0 => (purse 7003 => fail)); (case a1 => (purse 7008 => fail)); (case a2 => k_dflt (assumption)))
  | ((with_reducible refine' g_right ?a0 ?_); (case a0 => (purse 7003 => fail)))
  | ((with_reducible refine' use_draw ?a0 ?a1 ?a2 ?a3 ?a4 ?_); (case a0 => assumption); (case a1 => intro _ _; (purse 7005 => fail)); (case a2 => assumption); (case a3 => (purse 7011 => fail)); (case a4 => (purse 7011 => fail)); intro _ _ _ _ _ _ _ _)
  | ((with_reducible refine' use_giveI ?a0 ?a1 ?a2 ?_); (case a0 => assumption); (case a1 => intro _ _; (purse 7005 => fail)); (case a2 => assumption); intro _ _ _ _ _ _ _ _)
  | ((with_reducible refine' use_source ?a0 ?a1 ?_); (case a0 => assumption); (case a1 => k_dflt (assumption)); intro _ _ _ _ _ _)
  | (with_reducible refine g_absN ?_; intro _ _)
  | (with_reducible refine g_maxN ?_; intro _ _ _ _)
  | (with_reducible refine g_minN ?_; intro _ _ _ _)
  | ((with_reducible refine' g_kR1 ?a0 ?a1 ?_); (case a0 => omega); (case a1 => omega))
  | ((with_reducible refine' g_neD ?a0 ?a1 ?a2 ?_); (case a0 => (purse 7010 => fail)); (case a1 => (purse 7010 => fail)); (case a2 => k_dflt (rfl)))
  | ((with_reducible refine' g_eqD ?a0 ?a1 ?a2 ?_); (case a0 => (purse 7010 => fail)); (case a1 => (purse 7010 => fail)); (case a2 => k_dflt (rfl)))
  | ((with_reducible refine' g_klst ?a0 ?a1 ?_); (case a0 => assumption); (case a1 => k_dflt (exact rfl)); intro _ _ _ _)
  | ((with_reducible refine' g_ktup ?a0 ?a1 ?_); (case a0 => assumption); (case a1 => k_dflt (exact rfl)); intro _ _ _ _)
  | ((with_reducible refine' g_setL ?a0 ?a1 ?a2 ?_); (case a0 => assumption); (case a1 => (purse 7005 => fail)); (case a2 => k_dflt (exact rfl)); intro _ _)
  | ((with_reducible refine' g_unl3 ?a0 ?_); (case a0 => (purse 7003 => fail)))
  | (purse 7001 => fail))
local macro_rules | `(tactic| purse 7012 => fail) => `(tactic| ((try (with_reducible refine start_go ?_)); repeat (purse 7002 => fail)))
local macro_rules | `(tactic| purse 7013 => fail) => `(tactic| first | rfl | (refine decide_eq_true ?_; omega) | (simp only [Bool.not_eq_true', Bool.not_eq_false', decide_eq_false_iff_not, decide_eq_true_eq, Bool.not_not, decide_eq_decide]; done) | (simp only [Bool.not_eq_true', Bool.not_eq_false', decide_eq_false_iff_not, decide_eq_true_eq, Bool.not_not, decide_eq_decide]; omega))
local macro_rules | `(tactic| purse 7014 => fail) => `(tactic| first | rfl | (refine decide_eq_false ?_; omega) | (simp only [Bool.not_eq_true', Bool.not_eq_false', decide_eq_false_iff_not, decide_eq_true_eq, Bool.not_not, decide_eq_decide]; done) | (simp only [Bool.not_eq_true', Bool.not_eq_false', decide_eq_false_iff_not, decide_eq_true_eq, Bool.not_not, decide_eq_decide]; omega))
local macro_rules | `(tactic| purse 7015 => fail) => `(tactic| ((refine g_yes ?h ?_); (case h => (purse 7013 => fail))))
local macro_rules | `(tactic| purse 7016 => fail) => `(tactic| ((refine g_no ?h ?_); (case h => (purse 7014 => fail))))
local macro_rules | `(tactic| purse 7017 => fail) => `(tactic| first | (purse 7015 => fail) | (purse 7016 => fail))
local macro_rules | `(tactic| purse 7018 => fail) => `(tactic| repeat ((purse 7012 => fail); (purse 7017 => fail)))
local macro_rules | `(tactic| purse 7019 => fail) => `(tactic| repeat (first | exact intIn_nil | refine intIn_cons (by omega) (by omega) ?_))
local macro_rules | `(tactic| purse 7020 => fail) => `(tactic| (simp only [List.length_cons, List.length_nil]; omega))
local macro_rules | `(tactic| purse 7021 => fail) => `(tactic| (refine g_two (fun c => ?_) (fun c => ?_) <;> first | (have c := of_decide_eq_true c) | (have c := of_decide_eq_false c) | skip))
local macro_rules | `(tactic| purse 7022 => fail) => `(tactic| ((purse 7018 => fail); (purse 7012 => fail); try ((purse 7021 => fail) <;> (purse 7022 => fail))))

local macro_rules | `(tactic| purse 7001 => fail) => `(tactic| first
  | (with_reducible refine use_wholeI ?_)
  | (with_reducible refine g_pow10_9 ?_)
  | ((with_reducible refine' use_time ?a0 ?a1 ?_); (case a0 => (purse 7011 => fail)); (case a1 => (purse 7011 => fail))))

/-! rows: bent -/
theorem tlsDrop {H : Hp} : ∀ {vs : List V} {xss : List (List V)} (n : Nat), Tls H vs xss → Tls H (vs.drop n) (xss.drop n)
  | _, _, 0, h => h
  | _, _, _ + 1, .nil => .nil
  | _, _, n + 1, .cons _ r => tlsDrop n r
theorem tlsRev {H : Hp} : ∀ {vs : List V} {xss : List (List V)}, Tls H vs xss → Tls H vs.reverse xss.reverse
  | _, _, .nil => .nil
  | _, _, .cons h r => by
    rw [List.reverse_cons, List.reverse_cons]
    exact (tlsRev r).append (.one h)
/-- a tuple of pairs -/
def Pc (H : Hp) (r : Addr) (row : Row) : Prop := ∃ xs, H r = some (.tup xs) ∧ Tls H xs (row.map stV)
section
variable {K : PySem.W.Frag} {σ : L2.St} {H H' : Hp} {Q : VK} {tb : TE} {a b s : Addr} {row row2 : Row} {n : Nat}
theorem Pc.up (u : Up H H') (h : Pc H a row) : Pc H' a row := by
  obtain ⟨xs, e, t⟩ := h
  exact ⟨xs, u _ _ e, t.up u⟩
theorem Pc.dr (u : UpX s H H') (hs : Src H s) (h : Pc H a row) : Pc H' a row := by
  obtain ⟨xs, e, t⟩ := h
  exact ⟨xs, u _ _ (hs.ne e) e, t.upX u hs.notup⟩
theorem g_slP (ht : ∀ k : VK, k (.int (n : Nat)) H → tb σ H k) (h : Pc H a row) (q : ∀ r H', Up H H' → Pc H' r (row.take n) → Q (.ref r) H') : kSlN (rSlA K) tb σ Q (.ref a) H := by
  obtain ⟨xs, e, t⟩ := h
  have e1 : cutV xs none (some (n : Int)) = xs.take n := by
    unfold cutV
    rw [HT.sIx_none, HT.sIx_nat, List.drop_zero, Nat.sub_zero]
    by_cases le : n ≤ xs.length
    · rw [Nat.min_eq_left le]
    · rw [Nat.min_eq_right (by omega), List.take_length, List.take_of_length_le (by omega)]
  have tt : Tls H (xs.take n) ((row.take n).map stV) := by rw [List.map_take]; exact t.take n
  refine ht _ ⟨_, rfl, a, xs, rfl, SqT.of e, fun z => ?_, fun _ p hp => ?_⟩
  · have z2 := z.2
    rw [HT.sIx_nat] at z2
    refine q a H Up.rfl' ⟨xs, e, ?_⟩
    rw [List.take_of_length_le (show xs.length ≤ n by omega)] at tt
    exact tt
  · rw [e1]
    exact q p _ (Up.new hp) ⟨_, upd_same, tt.up (Up.new hp)⟩
theorem g_slQ (ht : ∀ k : VK, k (.int (n : Nat)) H → tb σ H k) (h : Pc H a row) (q : ∀ r H', Up H H' → Pc H' r (row.drop n) → Q (.ref r) H') : kSlS (rSlA K) tb σ Q (.ref a) H := by
  obtain ⟨xs, e, t⟩ := h
  have e1 : cutV xs (some (n : Int)) none = xs.drop n := by
    unfold cutV
    rw [HT.sIx_none, HT.sIx_nat]
    by_cases le : n ≤ xs.length
    · rw [Nat.min_eq_left le]
      exact List.take_of_length_le (by rw [List.length_drop]; exact Nat.le_refl _)
    · rw [Nat.min_eq_right (by omega), List.drop_length, List.drop_of_length_le (by omega), List.take_nil]
  have tt : Tls H (xs.drop n) ((row.drop n).map stV) := by rw [List.map_drop]; exact tlsDrop n t
  refine ht _ ⟨_, rfl, a, xs, rfl, SqT.of e, fun z => ?_, fun _ p hp => ?_⟩
  · have z1 := z.1
    rw [HT.sIx_nat] at z1
    refine q a H Up.rfl' ⟨xs, e, ?_⟩
    by_cases n0 : n = 0
    · subst n0
      exact tt
    · have x0 : xs = [] := List.length_eq_zero_iff.mp (by omega)
      rw [x0, List.drop_nil] at tt
      rw [x0]
      exact tt
  · rw [e1]
    exact q p _ (Up.new hp) ⟨_, upd_same, tt.up (Up.new hp)⟩
theorem g_catP (h : Pc H a row) (h2 : Pc H b row2) (hn : row.length + row2.length ≤ 900) (q : ∀ r H', Up H H' → Pc H' r (row ++ row2) → Q (.ref r) H') : rCatA K (.ref a) (.ref b) H Q := by
  obtain ⟨xs, e, t⟩ := h
  obtain ⟨ys, e2, t2⟩ := h2
  have l1 := t.len
  have l2 := t2.len
  rw [List.length_map] at l1 l2
  have tt : Tls H (xs ++ ys) ((row ++ row2).map stV) := by rw [List.map_append]; exact t.append t2
  refine ⟨a, b, xs, ys, rfl, rfl, SqT.of e, SqT.of e2, Nat.le_of_lt (small1000 (by omega)), fun z => ?_, fun _ z => ?_, fun _ _ p hp => q p _ (Up.new hp) ⟨_, upd_same, tt.up (Up.new hp)⟩⟩
  · subst z
    exact q b H Up.rfl' ⟨ys, e2, tt⟩
  · subst z
    rw [List.append_nil] at tt
    exact q a H Up.rfl' ⟨xs, e, tt⟩
theorem g_revP (ht : ∀ k : VK, k (.int (-1)) H → tb σ H k) (h : Pc H a row) (q : ∀ r H', Up H H' → Pc H' r row.reverse → Q (.ref r) H') : kRevT K (tPart tb) σ Q (.ref a) H := by
  obtain ⟨xs, e, t⟩ := h
  refine ht _ ⟨-1, rfl, rfl, a, xs, rfl, SqT.of e, fun p hp => q p _ (Up.new hp) ⟨_, upd_same, ?_⟩⟩
  rw [List.map_reverse]
  exact (tlsRev t).up (Up.new hp)
end
/-- a row's nodes and moments keep within -/
def RB (N : Nat) (B : Int) (row : Row) : Prop := ∀ q ∈ row, (0 ≤ q.1 ∧ q.1 < (N : Int)) ∧ -B ≤ q.2 ∧ q.2 ≤ B
theorem RB.app {N : Nat} {B : Int} {r1 r2 : Row} (a : RB N B r1) (b : RB N B r2) : RB N B (r1 ++ r2) := fun q h => (List.mem_append.mp h).elim (a q) (b q)
theorem RB.take {N : Nat} {B : Int} {r1 : Row} {n : Nat} (a : RB N B r1) : RB N B (r1.take n) := fun q h => a q (List.mem_of_mem_take h)
theorem RB.drop {N : Nat} {B : Int} {r1 : Row} {n : Nat} (a : RB N B r1) : RB N B (r1.drop n) := fun q h => a q (List.mem_of_mem_drop h)
theorem RB.wide {N : Nat} {B B' : Int} {r1 : Row} (a : RB N B r1) (le : B ≤ B') : RB N B' r1 := fun q h => ⟨(a q h).1, by have := (a q h).2; omega, by have := (a q h).2; omega⟩
theorem RB.one {N : Nat} {B : Int} {q : Int × Int} (h : (0 ≤ q.1 ∧ q.1 < (N : Int)) ∧ -B ≤ q.2 ∧ q.2 ≤ B) : RB N B [q] := fun y hy => by rw [List.mem_singleton.mp hy]; exact h
open He in
structure TB14 (K : PySem.W.Frag) (mg : Str → Option Value) : Prop extends TWl K mg where
  z_tuple : mg "tuple" = none
/-- what stands while a row is bent -/
structure BS (H0 H : Hp) (s pl N A' r : Addr) (ps : List V) (ns : List (List V)) (row : Row) : Prop where
  u : UpX s H0 H
  src : Src H s
  pl : H pl = some (.tup [.ref N, .ref A'])
  n : Nst H N ps ns
  r : Pc H r row
section
variable {H0 H H' : Hp} {s pl N A' r : Addr} {ps : List V} {ns : List (List V)} {row : Row}
theorem BS.up (b : BS H0 H s pl N A' r ps ns row) (u : Up H H') : BS H0 H' s pl N A' r ps ns row := ⟨b.u.trans u.toX, b.src.up u, u _ _ b.pl, b.n.up u, b.r.up u⟩
theorem BS.dr (b : BS H0 H s pl N A' r ps ns row) (u : UpX s H H') (hs : Src H' s) (ne : N ≠ s) : BS H0 H' s pl N A' r ps ns row := ⟨b.u.trans u, hs, u _ _ (b.src.ne b.pl) b.pl, b.n.upX u ne b.src.notup, b.r.dr u b.src⟩
end
def far (q : Int × Int) : Int × Int := (q.1, q.2 + 100000000000000000000)
def spBent : Sp := fun vs H Q _ => ∃ (s pl N A' r : Addr) (ps : List V) (ns : List (List V)) (row : Row), vs = [.ref s, .ref pl, .ref r] ∧ BS H H s pl N A' r ps ns row ∧ N ≠ s ∧ 1 ≤ ns.length ∧ ns.length ≤ 12 ∧ RB ns.length 1000000000000 row ∧ 1 ≤ row.length ∧ row.length ≤ 20 ∧
  ∀ r' row' H', UpX s H H' → Src H' s → Pc H' r' row' → RB ns.length 1000000000000000000000 row' → row'.length ≤ 50 → Q (.ref r') H'
theorem Pc.at_ {H : Hp} {r : Addr} {row : Row} {i : Nat} {q : Int × Int} (h : Pc H r row) (e : row[i]? = some q) : ∃ xs b, H r = some (.tup xs) ∧ xs[i]? = some (.ref b) ∧ H b = some (.tup (stV q)) := by
  obtain ⟨xs, h1, t⟩ := h
  obtain ⟨b, h2, h3⟩ := Tls.atQ t e
  exact ⟨xs, b, h1, h2, h3⟩
theorem Pc.len {H : Hp} {r : Addr} {row : Row} (h : Pc H r row) : ∃ xs, H r = some (.tup xs) ∧ xs.length = row.length := by
  obtain ⟨xs, h1, t⟩ := h
  exact ⟨xs, h1, by have := t.len; rw [List.length_map] at this; exact this⟩
section
open He
variable {P : Program} {w : World} {K : PySem.W.Frag} {mg : Str → Option Value} {base : Heap} {f : Addr} {fd : FuncData}
theorem ok_bent (F : FnP K "_law_bent" "_law_bent" s_law_bent f fd) (T : TB14 K mg) (D_law_draw : Dn P w K mg base 2 (ga K "_law_draw") ["source", "amount"] spDraw) :
    FnOk P w K mg base (L2.CX P w) 4 f fd ["source", "plan", "row"] spBent := by
  refine F.ok c_law_bent (fun vs H Q E h => ?_) (fun cdv A outer s H vs Q E hr h => ⟨_, pss_cons (ps_set (i := 3) c_law_bent.nd rfl (Or.inl rfl) (pe_dn D_law_draw (rm hr) rfl T.g_law_draw (passes_call (takes_of rfl rfl rfl rfl) fun _ _ _ _ h => h) (pa_cons (pv 0) (pa_cons (pe_callB cl_len (by rfl) T.z_len (by decide +kernel) (pa_cons (pv 2) (pa_nil))) (pa_nil)))))
      (pss_cons (ps_asg (pe_ix ix_tup (pv 2) (pv 3) (fun _ _ => rfl)) (pg_tup (n := 2) rfl (pgs_cons (pg_name (i := 4) c_law_bent.nd rfl (Or.inl rfl)) (pgs_cons (pg_name (i := 5) c_law_bent.nd rfl (Or.inl rfl)) (pgs_nil)))))
      (pss_cons (ps_set (i := 6) c_law_bent.nd rfl (Or.inl rfl) (pe_dn D_law_draw (rm hr) rfl T.g_law_draw (passes_call (takes_of rfl rfl rfl rfl) fun _ _ _ _ h => h) (pa_cons (pv 0) (pa_cons (pe_int) (pa_nil)))))
      (pss_cons (ps_if (pt_cmpR op_eq (pv 6) (pe_int) (nomark _))
      (pss_one (ps_ret (pe_op op_catA (pe_op op_catA (pe_slice sl_tupA (pv 2) po_none (po_some (pv 3))) (pe_tup (pa_cons (pe_tup (pa_cons (pv 4) (pa_cons (pe_op op_add (pv 5) (pe_ix ix_list (pe_lst (pa_cons (pe_int) (pa_cons (pe_un un_neg (pe_int)) (pa_nil)))) (pe_dn D_law_draw (rm hr) rfl T.g_law_draw (passes_call (takes_of rfl rfl rfl rfl) fun _ _ _ _ h => h) (pa_cons (pv 0) (pa_cons (pe_int) (pa_nil)))) (fun _ _ => rfl))) (pa_nil)))) (pa_nil)))) (pe_slice sl_tupA (pv 2) (po_some (pe_op op_add (pv 3) (pe_int))) po_none))))
      (pss_nil))
      (pss_cons (ps_if (pt_cmpR op_eq (pv 6) (pe_int) (nomark _))
      (pss_one (ps_ret (pe_op op_catA (pe_op op_catA (pe_slice sl_tupA (pv 2) po_none (po_some (pv 3))) (pe_tup (pa_cons (pe_tup (pa_cons (pe_dn D_law_draw (rm hr) rfl T.g_law_draw (passes_call (takes_of rfl rfl rfl rfl) fun _ _ _ _ h => h) (pa_cons (pv 0) (pa_cons (pe_callB cl_len (by rfl) T.z_len (by decide +kernel) (pa_cons (pe_ix ix_tup (pv 1) (pe_int) (fun _ _ => rfl)) (pa_nil))) (pa_nil)))) (pa_cons (pv 5) (pa_nil)))) (pa_nil)))) (pe_slice sl_tupA (pv 2) (po_some (pe_op op_add (pv 3) (pe_int))) po_none))))
      (pss_nil))
      (pss_cons (ps_if (pt_cmpR op_eq (pv 6) (pe_int) (nomark _))
      (pss_one (ps_ret (pe_op op_catA (pe_slice sl_tupA (pv 2) po_none (po_some (pv 3))) (pe_slice sl_tupA (pv 2) (po_some (pe_op op_add (pv 3) (pe_int))) po_none))))
      (pss_nil))
      (pss_cons (ps_if (pt_cmpR op_eq (pv 6) (pe_int) (nomark _))
      (pss_one (ps_ret (pe_op op_catA (pe_op op_catA (pe_slice sl_tupA (pv 2) po_none (po_some (pv 3))) (pe_tup (pa_cons (pe_ix ix_tup (pv 2) (pv 3) (fun _ _ => rfl)) (pa_nil)))) (pe_slice sl_tupA (pv 2) (po_some (pv 3)) po_none))))
      (pss_nil))
      (pss_cons (ps_if (pt_cmpR op_eq (pv 6) (pe_int) (nomark _))
      (pss_one (ps_ret (pe_revT ((pv 2)) (po_some ((pe_un un_neg (pe_int)))))))
      (pss_nil))
      (pss_one (ps_ret (pe_callTy cl_tupE (by rfl) T.z_tuple (by decide +kernel) (pa_cons (pe_lc (own := [("one", 7), ("time", 8)]) (g := gTup K 2 (gCons (gName 7) (gCons (gName 8) (gNil)))) (tt := tYes) rfl c_law_bent.nd (pi_tup (pv 2)) (blkOk_by (own := [("one", 7), ("time", 8)]) (N := ["source", "plan", "row", "at", "node", "moment", "kind", "one", "time"]) (sc := defScope s_law_bent) (by decide +kernel)) (fun _ _ _ _ _ => pg_tup (n := 2) rfl (pgs_cons (pg_name (i := 7) c_law_bent.nd rfl (Or.inl rfl)) (pgs_cons (pg_name (i := 8) c_law_bent.nd rfl (Or.inl rfl)) (pgs_nil)))) (fun _ _ _ _ _ => pts_nil) (fun _ _ _ _ _ => pe_tup (pa_cons (pv 7) (pa_cons (pe_op op_add (pv 8) (pe_op op_pow (pe_int) (pe_int))) (pa_nil))))) (pa_nil)))))))))))), ?_⟩)
  · obtain ⟨s', pl, N, A', r, ps, ns, row, rfl, _⟩ := h
    rfl
  · obtain ⟨s', pl, N, A', r, ps, ns, row, rfl, B0, neN, nl1, nl2, rb, rl1, rl2, k⟩ := h
    (purse 7012 => fail)
    obtain ⟨xs, hx, xl⟩ := B0.r.len
    refine g_lent hx ?_
    (purse 7012 => fail)
    refine use_drawX B0.src (by omega) (by omega) fun d H1 d0 d1 u1 hs1 => ?_
    obtain ⟨dn, rfl⟩ : ∃ dn : Nat, d = (dn : Int) := ⟨d.toNat, by omega⟩
    have B1 := B0.dr u1 hs1 neN
    obtain ⟨⟨qn, qt⟩, eq⟩ : ∃ q, row[dn]? = some q := ⟨_, List.getElem?_eq_getElem (show dn < row.length by omega)⟩
    have qb := rb _ (List.mem_of_getElem? eq)
    have qb1 := qb.1.1
    have qb2 := qb.1.2
    have qb3 := qb.2.1
    have qb4 := qb.2.2
    simp only at qb1 qb2 qb3 qb4
    obtain ⟨xs1, b1, hx1, eb1, hb1⟩ := B1.r.at_ eq
    (purse 7012 => fail)
    refine g_ixT hx1 (ai_nat eb1) ?_
    refine g_un2 (K := K) hb1 ?_
    (purse 7012 => fail)
    refine use_drawX B1.src (by omega) (by omega) fun kd H2 k0 k1 u2 hs2 => ?_
    have B2 := B1.dr u2 hs2 neN
    have wide : RB ns.length 1000000000000000000000 row := rb.wide (by omega)
    (purse 7012 => fail)
    by_cases e0 : kd = 0
    · (purse 7015 => fail)
      (purse 7012 => fail)
      refine g_slP (K := K) (n := dn) (fun k z => by (purse 7012 => fail); exact z) B2.r fun r1 H3 u3 p1 => ?_
      have B3 := B2.up u3
      (purse 7012 => fail)
      refine g_l0 (by rfl) fun pq hpq => ?_
      have uq := Up.new (o := .lst [.int 1, .int (-1)]) hpq
      have qq : upd H3 pq (.lst [.int 1, .int (-1)]) pq = some (.lst [.int 1, .int (-1)]) := upd_same
      generalize upd H3 pq (.lst [.int 1, .int (-1)]) = H4 at uq qq ⊢
      have B4 := B3.up uq
      have nq : pq ≠ s' := fun z => by
        obtain ⟨_, _, y, _⟩ := B3.src
        rw [z, y] at hpq; cases hpq
      (purse 7012 => fail)
      refine use_drawX B4.src (by omega) (by omega) fun d3 H5 d30 d31 u5 hs5 => ?_
      have B5 := B4.dr u5 hs5 neN
      have p1' := (p1.up uq).dr u5 B4.src
      obtain ⟨ev, eev, g1, g2⟩ : ∃ ev : Int, atI [V.int 1, .int (-1)] d3 = some (.int ev) ∧ -1 ≤ ev ∧ ev ≤ 1 := by
        rcases (show d3 = 0 ∨ d3 = 1 by omega) with rfl | rfl
        · exact ⟨_, rfl, by omega, by omega⟩
        · exact ⟨_, rfl, by omega, by omega⟩
      refine g_ixQ (SqL.of (u5 _ _ nq qq)) eev ?_
      (purse 7012 => fail)
      refine g_t0 (by rfl) fun pa hpa => ?_
      have ua := Up.new (o := .tup [.int qn, .int (qt + ev)]) hpa
      have qa : upd H5 pa (.tup [.int qn, .int (qt + ev)]) pa = some (.tup (stV (qn, qt + ev))) := upd_same
      generalize upd H5 pa (.tup [.int qn, .int (qt + ev)]) = H6 at ua qa ⊢
      (purse 7012 => fail)
      refine g_t0 (by rfl) fun pb hpb => ?_
      have ub := Up.new (o := .tup [.ref pa]) hpb
      have qb' : upd H6 pb (.tup [.ref pa]) pb = some (.tup [.ref pa]) := upd_same
      have qa' := ub _ _ qa
      generalize upd H6 pb (.tup [.ref pa]) = H7 at ub qb' qa' ⊢
      have uab := ua.trans ub
      have B7 := B5.up uab
      refine g_catP (K := K) (p1'.up uab) (row2 := [(qn, qt + ev)]) ⟨_, qb', .one qa'⟩ (by rw [List.length_take, List.length_singleton]; omega) fun r2 H8 u8 p2' => ?_
      have B8 := B7.up u8
      (purse 7012 => fail)
      refine g_slQ (K := K) (n := dn + 1) (fun k z => by (purse 7012 => fail); exact z) B8.r fun r3 H9 u9 p3 => ?_
      have B9 := B8.up u9
      refine g_catP (K := K) (p2'.up u9) p3 (by rw [List.length_append, List.length_take, List.length_singleton, List.length_drop]; omega) fun r4 Ha ua4 p4 => ?_
      have Ba := B9.up ua4
      exact k r4 _ Ha Ba.u Ba.src p4 ((wide.take.app (.one ⟨⟨qb1, qb2⟩, by show _ ≤ qt + ev; omega, by show qt + ev ≤ _; omega⟩)).app wide.drop) (by rw [List.length_append, List.length_append, List.length_take, List.length_singleton, List.length_drop]; omega)
    · (purse 7016 => fail)
      (purse 7012 => fail)
      by_cases e1 : kd = 1
      · (purse 7015 => fail)
        (purse 7012 => fail)
        refine g_slP (K := K) (n := dn) (fun k z => by (purse 7012 => fail); exact z) B2.r fun r1 H3 u3 p1 => ?_
        have B3 := B2.up u3
        (purse 7012 => fail)
        refine g_ixT B3.pl (i := 0) (v := .ref N) rfl ?_
        (purse 7012 => fail)
        refine g_lenl B3.n.h ?_
        have psl := B3.n.t.len
        (purse 7012 => fail)
        refine use_drawX B3.src (by omega) (by omega) fun d3 H5 d30 d31 u5 hs5 => ?_
        have B5 := B3.dr u5 hs5 neN
        have p1' := p1.dr u5 B3.src
        (purse 7012 => fail)
        refine g_t0 (by rfl) fun pa hpa => ?_
        have ua := Up.new (o := .tup [.int d3, .int qt]) hpa
        have qa : upd H5 pa (.tup [.int d3, .int qt]) pa = some (.tup (stV (d3, qt))) := upd_same
        generalize upd H5 pa (.tup [.int d3, .int qt]) = H6 at ua qa ⊢
        (purse 7012 => fail)
        refine g_t0 (by rfl) fun pb hpb => ?_
        have ub := Up.new (o := .tup [.ref pa]) hpb
        have qb' : upd H6 pb (.tup [.ref pa]) pb = some (.tup [.ref pa]) := upd_same
        have qa' := ub _ _ qa
        generalize upd H6 pb (.tup [.ref pa]) = H7 at ub qb' qa' ⊢
        have uab := ua.trans ub
        have B7 := B5.up uab
        refine g_catP (K := K) (p1'.up uab) (row2 := [(d3, qt)]) ⟨_, qb', .one qa'⟩ (by rw [List.length_take, List.length_singleton]; omega) fun r2 H8 u8 p2' => ?_
        have B8 := B7.up u8
        (purse 7012 => fail)
        refine g_slQ (K := K) (n := dn + 1) (fun k z => by (purse 7012 => fail); exact z) B8.r fun r3 H9 u9 p3 => ?_
        have B9 := B8.up u9
        refine g_catP (K := K) (p2'.up u9) p3 (by rw [List.length_append, List.length_take, List.length_singleton, List.length_drop]; omega) fun r4 Ha ua4 p4 => ?_
        have Ba := B9.up ua4
        exact k r4 _ Ha Ba.u Ba.src p4 ((wide.take.app (.one ⟨⟨by show 0 ≤ d3; omega, by show d3 < _; omega⟩, by show _ ≤ qt; omega, by show qt ≤ _; omega⟩)).app wide.drop) (by rw [List.length_append, List.length_append, List.length_take, List.length_singleton, List.length_drop]; omega)
      · (purse 7016 => fail)
        (purse 7012 => fail)
        by_cases e2 : kd = 2
        · (purse 7015 => fail)
          (purse 7012 => fail)
          refine g_slP (K := K) (n := dn) (fun k z => by (purse 7012 => fail); exact z) B2.r fun r1 H3 u3 p1 => ?_
          have B3 := B2.up u3
          (purse 7012 => fail)
          refine g_slQ (K := K) (n := dn + 1) (fun k z => by (purse 7012 => fail); exact z) B3.r fun r3 H9 u9 p3 => ?_
          have B9 := B3.up u9
          refine g_catP (K := K) (p1.up u9) p3 (by rw [List.length_take, List.length_drop]; omega) fun r4 Ha ua4 p4 => ?_
          have Ba := B9.up ua4
          exact k r4 _ Ha Ba.u Ba.src p4 (wide.take.app wide.drop) (by rw [List.length_append, List.length_take, List.length_drop]; omega)
        · (purse 7016 => fail)
          (purse 7012 => fail)
          by_cases e3 : kd = 3
          · (purse 7015 => fail)
            (purse 7012 => fail)
            refine g_slP (K := K) (n := dn) (fun k z => by (purse 7012 => fail); exact z) B2.r fun r1 H3 u3 p1 => ?_
            have B3 := B2.up u3
            obtain ⟨xs3, b3, hx3, eb3, hb3⟩ := B3.r.at_ eq
            (purse 7012 => fail)
            refine g_ixT hx3 (ai_nat eb3) ?_
            (purse 7012 => fail)
            refine g_t0 (by rfl) fun pb hpb => ?_
            have ub := Up.new (o := .tup [.ref b3]) hpb
            have qb' : upd H3 pb (.tup [.ref b3]) pb = some (.tup [.ref b3]) := upd_same
            have hb3' := ub _ _ hb3
            generalize upd H3 pb (.tup [.ref b3]) = H7 at ub qb' hb3' ⊢
            have B7 := B3.up ub
            refine g_catP (K := K) (p1.up ub) (row2 := [(qn, qt)]) ⟨_, qb', .one hb3'⟩ (by rw [List.length_take, List.length_singleton]; omega) fun r2 H8 u8 p2' => ?_
            have B8 := B7.up u8
            (purse 7012 => fail)
            refine g_slQ (K := K) (n := dn) (fun k z => by (purse 7012 => fail); exact z) B8.r fun r3 H9 u9 p3 => ?_
            have B9 := B8.up u9
            refine g_catP (K := K) (p2'.up u9) p3 (by rw [List.length_append, List.length_take, List.length_singleton, List.length_drop]; omega) fun r4 Ha ua4 p4 => ?_
            have Ba := B9.up ua4
            exact k r4 _ Ha Ba.u Ba.src p4 ((wide.take.app (.one (wide _ (List.mem_of_getElem? eq)))).app wide.drop) (by rw [List.length_append, List.length_append, List.length_take, List.length_singleton, List.length_drop]; omega)
          · (purse 7016 => fail)
            (purse 7012 => fail)
            by_cases e4 : kd = 4
            · (purse 7015 => fail)
              (purse 7012 => fail)
              refine g_revP (K := K) (fun k z => by (purse 7012 => fail); exact z) B2.r fun r1 H3 u3 p1 => ?_
              have B3 := B2.up u3
              exact k r1 _ H3 B3.u B3.src p1 (fun q h => wide q (List.mem_reverse.mp h)) (by rw [List.length_reverse]; omega)
            · (purse 7016 => fail)
              (purse 7012 => fail)
              obtain ⟨xs2, hx2, tl2⟩ := B2.r
              have xl2 := tl2.len
              rw [List.length_map] at xl2
              refine g_lcTD (K := K) (xs := xs2) (fun _ => False) (fun D ii acc H' => Up H2 H' ∧ Tls H' acc ((((row.take ii).map far)).map stV)) (fun _ z => z.elim) (by omega) (SqT.of hx2) (fun D hD => ⟨Up.new hD, .nil⟩) (fun D ii acc H' ys zs hD hd h => ⟨Up.setF h.1 hD, h.2.lstAt hd⟩) (fun D ii acc H' h => SqT.of (h.1 _ _ hx2)) (fun D ii acc H' x hD hd hx hG R NN hR hN' => ?_) fun D acc H3 hD hG hL hacc => ?_
              · obtain ⟨uH, tls⟩ := hG
                obtain ⟨b, zs, rfl, ez, hb⟩ := (tl2.up uH).get hx
                rw [List.getElem?_map] at ez
                obtain ⟨⟨z1, z2⟩, ez', rfl⟩ := Option.map_eq_some_iff.mp ez
                rw [show wipe [some (V.ref s'), some (V.ref pl), some (V.ref r), some (V.int (dn : Nat)), some (V.int qn), some (V.int qt), some (V.int kd), none, none] (List.map (fun x => x.snd) [(Str.ofString "one", 7), (Str.ofString "time", 8)]) = [some (V.ref s'), some (V.ref pl), some (V.ref r), some (V.int (dn : Nat)), some (V.int qn), some (V.int qt), some (V.int kd), none, none] from rfl]
                refine g_gt2 (K := K) hb ⟨rfl, ?_⟩
                refine g_tYes ?_
                (purse 7012 => fail)
                refine g_pow10_20 ?_
                (purse 7012 => fail)
                refine g_t0 (by rfl) fun pk hpk => ?_
                have uk := Up.new (o := .tup [.int z1, .int (z2 + 100000000000000000000)]) hpk
                refine hR _ _ uk.toS ⟨uH.trans uk, ?_⟩
                have e : ((row.take (ii + 1)).map far).map stV = ((row.take ii).map far).map stV ++ [stV (far (z1, z2))] := by rw [List.take_add_one, ez', List.map_append, List.map_append]; rfl
                rw [e]
                exact (tls.up uk).append (.one upd_same)
              obtain ⟨u3, tls⟩ := hG
              rw [xl2, List.take_length] at tls
              (purse 7012 => fail)
              refine g_tupE (.inl hL) fun r4 H4 u4 hr4 => ?_
              have B4 := (B2.up u3).up u4
              refine k r4 _ H4 B4.u B4.src ⟨acc, hr4, tls.up u4⟩ (fun q h => ?_) (by rw [List.length_map]; omega)
              obtain ⟨y, hy, rfl⟩ := List.mem_map.mp h
              have yb := rb y hy
              refine ⟨yb.1, ?_, ?_⟩
              · show -1000000000000000000000 ≤ y.2 + 100000000000000000000
                have := yb.2.1
                omega
              · show y.2 + 100000000000000000000 ≤ 1000000000000000000000
                have := yb.2.2
                omega
end

end KW
namespace KW
open PySem PySem.Spec PyProof.Rows L2 AF RZ
open K1
open C8 (pe_gc)
local macro_rules | `(tactic| purse 7003 => fail) => `(tactic| k_dflt (refine Sh.has_ (by assumption) ?_; repeat (first | exact On.here | apply On.next)))
local macro_rules | `(tactic| purse 7004 => fail) => `(tactic| k_dflt (repeat (first | exact On.here | apply On.next)))
local macro_rules | `(tactic| purse 7005 => fail) => `(tactic| (repeat (first | exact Rep.here | apply Rep.next)))
local macro_rules | `(tactic| purse 7006 => fail) => `(tactic| (exact Sh.out (by assumption) (fun b h => by simp [h])))
local macro_rules | `(tactic| purse 7007 => fail) => `(tactic| k_dflt (first | ((with_reducible refine cdivw ?_ ?_) <;> omega) | ((with_reducible show CDiv _ _); constructor <;> omega) | ((with_reducible show CMul _ _); (first | (left; constructor <;> omega) | (right; constructor <;> omega))) | (show (0 : Int) < _; omega)))
local macro_rules | `(tactic| purse 7008 => fail) => `(tactic| first | exact Kd.int _ | exact Kd.bl _ | exact Kd.non | exact Kd.str _ | exact Kd.ins (by (purse 7003 => fail)) | exact Kd.lst (by (purse 7003 => fail)) | exact Kd.tup (by (purse 7003 => fail)))
local macro_rules | `(tactic| purse 7009 => fail) => `(tactic| first | exact DpAll.nil | (apply DpAll.cons; (purse 7010 => fail); (purse 7009 => fail)))
local macro_rules | `(tactic| purse 7010 => fail) => `(tactic| first | exact Dp.int _ | exact Dp.bl _ | exact Dp.non | exact Dp.str _ | (refine dp_int ?_; omega) | (refine dp_bl ?_; simp only [decide_eq_decide]; omega) | (apply dp_lst; (purse 7003 => fail); (purse 7009 => fail)) | (apply dp_tup; (purse 7003 => fail); (purse 7009 => fail)))
local macro_rules | `(tactic| purse 7011 => fail) => `(tactic| first | assumption | omega)
local macro_rules | `(tactic| purse 7001 => fail) => `(tactic| fail "no use")
local macro_rules | `(tactic| purse 7002 => fail) => `(tactic| first
  | (with_reducible refine set_go ?_)
  | (with_reducible refine Step.go ?_)
  | (with_reducible first | refine g_pow10_6 ?_ | refine g_pow10_7 ?_ | refine g_pow10_18 ?_ | refine g_pow10_29 ?_ | refine g_pow10_30 ?_)
  | ((with_reducible refine' g_I ?a0 ?_); (case a0 => (purse 7007 => fail)))
  | ((with_reducible refine' g_ixL ?a0 ?a1 ?_); (case a0 => (purse 7003 => fail)); (case a1 => k_dflt (exact rfl)))
  | ((with_reducible refine' g_kfld ?a0 ?a1 ?a2 ?a3 ?_); (case a0 => (purse 7003 => fail)); (case a1 => k_dflt (assumption)); (case a2 => k_dflt (assumption)); (case a3 => k_dflt (exact rfl)))
  | ((with_reducible refine' g_kprop ?a0 ?_); (case a0 => (purse 7003 => fail)))
  | ((with_reducible refine' g_kmeth ?a0 ?a1 ?_); (case a0 => (purse 7003 => fail)); (case a1 => k_dflt (exact rfl)))
  | ((with_reducible refine' g_own ?a0 ?a1 ?a2 ?_); (case a0 => (purse 7003 => fail)); (case a1 => (purse 7008 => fail)); (case a2 => k_dflt (assumption)))
  | ((with_reducible refine' g_cmp ?a0 ?a1 ?a2 ?_); (case a0 => (purse 7003 => fail)); (case a1 => (purse 7008 => fail)); (case a2 => k_dflt (assumption)))
  | ((with_reducible refine' g_neq ?a0 ?a1 ?a2 ?_); (case a0 => (purse 7003 => fail)); (case a1 => (purse 7008 => fail)); (case a2 => k_dflt (assumption)))
  | ((with_reducible refine' g_right ?a0 ?_); (case a0 => (purse 7003 => fail)))
  | ((with_reducible refine' use_draw ?a0 ?a1 ?a2 ?a3 ?a4 ?_); (case a0 => assumption); (case a1 => intro _ _; (purse 7005 => fail)); (case a2 => assumption); (case a3 => (purse 7011 => fail)); (case a4 => (purse 7011 => fail)); intro _ _ _ _ _ _ _ _)
  | ((with_reducible refine' use_giveI ?a0 ?a1 ?a2 ?_); (case a0 => assumption); (case a1 => intro _ _; (purse 7005 => fail)); (case a2 => assumption); intro _ _ _ _ _ _ _ _)
  | ((with_reducible refine' use_source ?a0 ?a1 ?_); (case a0 => assumption); (case a1 => k_dflt (assumption)); intro _ _ _ _ _ _)
  | (with_reducible refine g_absN ?_; intro _ _)
  | (with_reducible refine g_maxN ?_; intro _ _ _ _)
  | (with_reducible refine g_minN ?_; intro _ _ _ _)
  | ((with_reducible refine' g_kR1 ?a0 ?a1 ?_); (case a0 => omega); (case a1 => omega))
  | ((with_reducible refine' g_neD ?a0 ?a1 ?a2 ?_); (case a0 => (purse 7010 => fail)); (case a1 => (purse 7010 => fail)); (case a2 => k_dflt (rfl)))
  | ((with_reducible refine' g_eqD ?a0 ?a1 ?a2 ?_); (case a0 => (purse 7010 => fail)); (case a1 => (purse 7010 => fail)); (case a2 => k_dflt (rfl)))
  | ((with_reducible refine' g_klst ?a0 ?a1 ?_); (case a0 => assumption); (case a1 => k_dflt (exact rfl)); intro _ _ _ _)
  | ((with_reducible refine' g_ktup ?a0 ?a1 ?_); (case a0 => assumption); (case a1 => k_dflt (exact rfl)); intro _ _ _ _)
  | ((with_reducible refine' g_setL ?a0 ?a1 ?a2 ?_); (case a0 => assumption); (case a1 => (purse 7005 => fail)); (case a2 => k_dflt (exact rfl)); intro _ _)
  | ((with_reducible refine' g_unl3 ?a0 ?_); (case a0 => (purse 7003 => fail)))
  | (purse 7001 => fail))
local macro_rules | `(tactic| purse 7012 => fail) => `(tactic| ((try (with_reducible refine start_go ?_)); repeat (purse 7002 => fail)))
local macro_rules | `(tactic| purse 7013 => fail) => `(tactic| first | rfl | (refine decide_eq_true ?_; omega) | (simp only [Bool.not_eq_true', Bool.not_eq_false', decide_eq_false_iff_not, decide_eq_true_eq, Bool.not_not, decide_eq_decide]; done) | (simp only [Bool.not_eq_true', Bool.not_eq_false', decide_eq_false_iff_not, decide_eq_true_eq, Bool.not_not, decide_eq_decide]; omega))
local macro_rules | `(tactic| purse 7014 => fail) => `(tactic| first | rfl | (refine decide_eq_false ?_; omega) | (simp only [Bool.not_eq_true', Bool.not_eq_false', decide_eq_false_iff_not, decide_eq_true_eq, Bool.not_not, decide_eq_decide]; done) | (simp only [Bool.not_eq_true', Bool.not_eq_false', decide_eq_false_iff_not, decide_eq_true_eq, Bool.not_not, decide_eq_decide]; omega))
local macro_rules | `(tactic| purse 7015 => fail) => `(tactic| ((refine g_yes ?h ?_); (case h => (purse 7013 => fail))))
local macro_rules | `(tactic| purse 7016 => fail) => `(tactic| ((refine g_no ?h ?_); (case h => (purse 7014 => fail))))
local macro_rules | `(tactic| purse 7017 => fail) => `(tactic| first | (purse 7015 => fail) | (purse 7016 => fail))
local macro_rules | `(tactic| purse 7018 => fail) => `(tactic| repeat ((purse 7012 => fail); (purse 7017 => fail)))
local macro_rules | `(tactic| purse 7019 => fail) => `(tactic| repeat (first | exact intIn_nil | refine intIn_cons (by omega) (by omega) ?_))
local macro_rules | `(tactic| purse 7020 => fail) => `(tactic| (simp only [List.length_cons, List.length_nil]; omega))
local macro_rules | `(tactic| purse 7021 => fail) => `(tactic| (refine g_two (fun c => ?_) (fun c => ?_) <;> first | (have c := of_decide_eq_true c) | (have c := of_decide_eq_false c) | skip))
local macro_rules | `(tactic| purse 7022 => fail) => `(tactic| ((purse 7018 => fail); (purse 7012 => fail); try ((purse 7021 => fail) <;> (purse 7022 => fail))))

local macro_rules | `(tactic| purse 7001 => fail) => `(tactic| first
  | (with_reducible refine use_wholeI ?_)
  | (with_reducible refine g_pow10_9 ?_)
  | ((with_reducible refine' use_time ?a0 ?a1 ?_); (case a0 => (purse 7011 => fail)); (case a1 => (purse 7011 => fail))))

/-! rows: the law -/
open He in
structure TL14 (K : PySem.W.Frag) (w : World) (mg : Str → Option Value) : Prop extends TR14 K w mg, TB14 K mg where
  z_max : mg "max" = none
  z_min : mg "min" = none
  g_law_row : mg "_law_row" = some (.ref (ga K "_law_row"))
  g_law_right : mg "_law_right" = some (.ref (ga K "_law_right"))
  g_law_bent : mg "_law_bent" = some (.ref (ga K "_law_bent"))
def spLaw (K : PySem.W.Frag) : Sp := fun vs H Q _ => ∃ (a : Addr) (ns : List Int), vs = [.ref a] ∧ SqL K H a (ns.map V.int) ∧ ns.length ≤ 63 ∧ ∀ H', Q (.bl true) H'
theorem sql_up {K : PySem.W.Frag} {H H' : Hp} {a : Addr} {xs : List V} (u : Up H H') (h : SqL K H a xs) : SqL K H' a xs := by
  rcases h with (h | ⟨o, h⟩) | h
  · exact .inl (.inl (u _ _ h))
  · exact .inl (.inr ⟨o, u _ _ h⟩)
  · exact .inr h
theorem up_of {H0 H H' : Hp} {p : Addr} (u : Up H0 H) (x : UpX p H H') (n : H0 p = none) : Up H0 H' := fun b o e => x b o (fun z => by rw [z, n] at e; cases e) (u b o e)
theorem use_way {C : Addr} {H : Hp} {n r : Addr} {ns : List (List V)} {as : List Ar} {Q : VK} {E : XK} (hn : NdAt H n ns) (hr : RwAt H r as) (ok : WOk ns as) (q : ∀ x H', H x = none → Up H H' → WA C H' x ns as → Q (.ref x) H') : kMake C (spWay C) E Q [.ref n, .ref r] H := by
  intro x dx hx hdx ne
  have u : Up H (upd (upd H dx (.own x)) x (.ins C dx [])) := (Up.new hdx).setF hx
  refine ⟨x, dx, n, r, ns, as, rfl, upd_same, hn.up u, hr.up u, ok, fun H' t1 t2 ux hx' h1 h2 => ⟨rfl, q x H' hx (fun b o e => ?_) ⟨dx, t1, t2, hx', h1, h2⟩⟩⟩
  exact ux b o (fun z => by rw [z, hx] at e; cases e) (u _ _ e)
theorem rowB_row {ns : List (List V)} {as : List Ar} {row : Row} (rb : RB ns.length 1000000000000000000000 row) : rowB ns as (.tuple (row.map stD)) = rightB ns as row := by
  rw [rowB_tup, pd_pair]
  have e : (row.map stD).all (stepB ns.length) = true := by
    rw [List.all_eq_true]
    intro d hd
    obtain ⟨q, hq, rfl⟩ := List.mem_map.mp hd
    obtain ⟨⟨h1, h2⟩, h3, h4⟩ := rb q hq
    show ((decide (0 ≤ q.1) && decide (q.1 < (ns.length : Int))) && (decide (-1000000000000000000000000000000 ≤ q.2) && decide (q.2 ≤ 1000000000000000000000000000000))) = true
    rw [decide_eq_true h1, decide_eq_true h2, decide_eq_true (by omega), decide_eq_true (by omega)]; rfl
  rw [e]
  cases row <;> rfl
theorem row1_false {ns : List (List V)} {as : List Ar} {d : PyData} (h : stepB ns.length d = false) : rowB ns as (.tuple [d]) = false := by
  rw [rowB_tup]
  show (true && ((stepB ns.length d && true) && _)) = false
  rw [h]; rfl
structure RS (C : Addr) (H1 H : Hp) (s pl N A' x : Addr) (ps ws : List V) (ns : List (List V)) (as : List Ar) : Prop where
  u : Up H1 H
  src : Src H s
  pl : H pl = some (.tup [.ref N, .ref A'])
  n : Nst H N ps ns
  q : Nst H A' ws (as.map v5)
  wa : WA C H x ns as
section
variable {C : Addr} {H1 H H' : Hp} {s pl N A' x : Addr} {ps ws : List V} {ns : List (List V)} {as : List Ar}
theorem RS.up (r : RS C H1 H s pl N A' x ps ws ns as) (u : Up H H') : RS C H1 H' s pl N A' x ps ws ns as := ⟨r.u.trans u, r.src.up u, u _ _ r.pl, r.n.up u, r.q.up u, r.wa.up u⟩
theorem RS.dr (r : RS C H1 H s pl N A' x ps ws ns as) (u : UpX s H H') (hs : Src H' s) (f : H1 s = none) (n1 : N ≠ s) (n2 : A' ≠ s) : RS C H1 H' s pl N A' x ps ws ns as :=
  ⟨up_of r.u u f, hs, u _ _ (r.src.ne r.pl) r.pl, r.n.upX u n1 r.src.notup, r.q.upX u n2 r.src.notup, r.wa.upS (S := fun b => b = s) (u.toS rfl) (fun b xs z => by rw [z]; exact r.src.notup xs) (fun z => by
    obtain ⟨dx, t1, t2, hx, _⟩ := r.wa
    obtain ⟨_, _, y, _⟩ := r.src
    rw [show x = s from z, y] at hx; cases hx)⟩
end
section
open He
variable {P : Program} {w : World} {K : PySem.W.Frag} {mg : Str → Option Value} {base : Heap} {f : Addr} {fd : FuncData}
theorem ok_law (F : FnP K "law" "law" s_law f fd) (T : TL14 K w mg) (D_law_draw : Dn P w K mg base 2 (ga K "_law_draw") ["source", "amount"] spDraw) (D_law_source : Dn P w K mg base 2 (ga K "_law_source") ["script", "turn"] (spSource K))
    (D_law_plan : Dn P w K mg base 8 (ga K "_law_plan") ["source", "many", "longest", "back", "ends"] spPlan) (M_Way : Mn P w K mg base 14 (ga K "Way") ["self", "nodes", "arrows"] (spWay (ga K "Way")))
    (D_law_row : Dn P w K mg base 6 (ga K "_law_row") ["source", "plan", "most", "start", "longest"] spRowL) (D_is_row : Dn P w K mg base 12 (ga K "is_row") ["way", "value"] (spIsRow (ga K "Way")))
    (D_law_bent : Dn P w K mg base 4 (ga K "_law_bent") ["source", "plan", "row"] spBent) (D_law_right : Dn P w K mg base 2 (ga K "_law_right") ["plan", "row"] spRight) :
    FnOk P w K mg base (L2.CX P w) 18 f fd ["script"] (spLaw K) := by
  refine F.ok c_law (fun vs H Q E h => ?_) (fun cdv A outer s H vs Q E hr h => ⟨_, pss_cons (ps_for (passes_of rfl) rfl (pi_range1 rfl T.z_range (pa_cons (pe_callB (cl_max rfl) (by rfl) T.z_max (by decide +kernel) (pa_cons (pe_int) (pa_cons (pe_callB (cl_min rfl) (by rfl) T.z_min (by decide +kernel) (pa_cons (pe_callB cl_len (by rfl) T.z_len (by decide +kernel) (pa_cons (pv 0) (pa_nil))) (pa_cons (pe_int) (pa_nil)))) (pa_nil)))) (pa_nil))) (pg_name (i := 1) c_law.nd rfl (Or.inl rfl))
      (pss_cons (ps_set (i := 2) c_law.nd rfl (Or.inl rfl) (pe_dn D_law_source (rm hr) rfl T.g_law_source (passes_call (takes_of rfl rfl rfl rfl) fun _ _ _ _ h => h) (pa_cons (pv 0) (pa_cons (pv 1) (pa_nil)))))
      (pss_cons (ps_set (i := 3) c_law.nd rfl (Or.inl rfl) (pe_ix ix_list (pe_lst (pa_cons (pe_int) (pa_cons (pe_op op_pow (pe_int) (pe_int)) (pa_nil)))) (pe_dn D_law_draw (rm hr) rfl T.g_law_draw (passes_call (takes_of rfl rfl rfl rfl) fun _ _ _ _ h => h) (pa_cons (pv 2) (pa_cons (pe_int) (pa_nil)))) (fun _ _ => rfl)))
      (pss_cons (ps_set (i := 4) c_law.nd rfl (Or.inl rfl) (pe_dn D_law_plan (rm hr) rfl T.g_law_plan (passes_call (takes_of rfl rfl rfl rfl) fun _ _ _ _ h => h) (pa_cons (pv 2) (pa_cons (pe_op op_add (pe_int) (pe_dn D_law_draw (rm hr) rfl T.g_law_draw (passes_call (takes_of rfl rfl rfl rfl) fun _ _ _ _ h => h) (pa_cons (pv 2) (pa_cons (pe_int) (pa_nil))))) (pa_cons (pv 3) (pa_cons (pe_int) (pa_cons (pe_bl) (pa_nil))))))))
      (pss_cons (ps_set (i := 5) c_law.nd rfl (Or.inl rfl) (pe_mn M_Way (rm hr) rfl T.g_Way (passes_call (takes_of rfl rfl rfl rfl) fun _ _ _ _ h => h) (pa_cons (pe_ix ix_tup (pv 4) (pe_int) (fun _ _ => rfl)) (pa_cons (pe_ix ix_tup (pv 4) (pe_int) (fun _ _ => rfl)) (pa_nil)))))
      (pss_cons (ps_set (i := 6) c_law.nd rfl (Or.inl rfl) (pe_dn D_law_row (rm hr) rfl T.g_law_row (passes_call (takes_of rfl rfl rfl rfl) fun _ _ _ _ h => h) (pa_cons (pv 2) (pa_cons (pv 4) (pa_cons (pe_int) (pa_cons (pe_op op_sub (pe_dn D_law_draw (rm hr) rfl T.g_law_draw (passes_call (takes_of rfl rfl rfl rfl) fun _ _ _ _ h => h) (pa_cons (pv 2) (pa_cons (pe_int) (pa_nil)))) (pe_int)) (pa_cons (pe_op op_pow (pe_int) (pe_int)) (pa_nil))))))))
      (pss_cons (ps_if (pt_cmpR op_isnot_bl (pe_dn D_is_row (rm hr) rfl T.g_is_row (passes_call (takes_of rfl rfl rfl rfl) fun _ _ _ _ h => h) (pa_cons (pv 5) (pa_cons (pv 6) (pa_nil)))) (pe_bl) (nomark _))
      (pss_one (ps_ret (pe_bl)))
      (pss_nil))
      (pss_cons (ps_for (passes_of rfl) rfl (pi_range1 rfl T.z_range (pa_cons (pe_int) (pa_nil))) (pg_name (i := 7) c_law.nd rfl (Or.inl rfl))
      (pss_cons (ps_set (i := 8) c_law.nd rfl (Or.inl rfl) (pe_dn D_law_bent (rm hr) rfl T.g_law_bent (passes_call (takes_of rfl rfl rfl rfl) fun _ _ _ _ h => h) (pa_cons (pv 2) (pa_cons (pv 4) (pa_cons (pv 6) (pa_nil))))))
      (pss_one (ps_if (pt_cmpR op_ne (pe_dn D_is_row (rm hr) rfl T.g_is_row (passes_call (takes_of rfl rfl rfl rfl) fun _ _ _ _ h => h) (pa_cons (pv 5) (pa_cons (pv 8) (pa_nil)))) (pe_dn D_law_right (rm hr) rfl T.g_law_right (passes_call (takes_of rfl rfl rfl rfl) fun _ _ _ _ h => h) (pa_cons (pv 4) (pa_cons (pv 8) (pa_nil)))) (nomark _))
      (pss_one (ps_ret (pe_bl)))
      (pss_nil)))))
      (pss_cons (ps_set (i := 9) c_law.nd rfl (Or.inl rfl) (pe_lst (pa_cons (pe_non) (pa_cons (pe_int) (pa_cons (pe_str) (pa_cons (pe_dnewK) (pa_cons (pe_callTy cl_listT (by rfl) T.z_list (by decide +kernel) (pa_cons (pv 6) (pa_nil))) (pa_cons (pe_tup (pa_cons (pe_non) (pa_nil))) (pa_cons (pe_tup (pa_cons (pe_int) (pa_nil))) (pa_cons (pe_tup (pa_cons (pe_tup (pa_cons (pe_int) (pa_nil))) (pa_nil))) (pa_cons (pe_tup (pa_cons (pe_tup (pa_cons (pe_int) (pa_cons (pe_int) (pa_cons (pe_int) (pa_nil))))) (pa_nil))) (pa_cons (pe_tup (pa_cons (pe_lst (pa_cons (pe_int) (pa_cons (pe_int) (pa_nil)))) (pa_nil))) (pa_cons (pe_tup (pa_cons (pe_tup (pa_cons (pe_bl) (pa_cons (pe_int) (pa_nil)))) (pa_nil))) (pa_cons (pe_tup (pa_cons (pe_tup (pa_cons (pe_int) (pa_cons (pe_bl) (pa_nil)))) (pa_nil))) (pa_nil)))))))))))))))
      (pss_one (ps_for (passes_of rfl) rfl (pi_list (pe_op op_cat (pv 9) (pe_lst (pa_cons (pe_tup (pa_cons (pe_tup (pa_cons (pe_callB cl_len (by rfl) T.z_len (by decide +kernel) (pa_cons (pe_ix ix_tup (pv 4) (pe_int) (fun _ _ => rfl)) (pa_nil))) (pa_cons (pe_int) (pa_nil)))) (pa_nil))) (pa_cons (pe_tup (pa_cons (pe_tup (pa_cons (pe_un un_neg (pe_int)) (pa_cons (pe_int) (pa_nil)))) (pa_nil))) (pa_cons (pe_tup (pa_cons (pe_tup (pa_cons (pe_int) (pa_cons (pe_str) (pa_nil)))) (pa_nil))) (pa_nil))))))) (pg_name (i := 10) c_law.nd rfl (Or.inl rfl))
      (pss_one (ps_if (pt_cmpR op_isnot_bl (pe_dn D_is_row (rm hr) rfl T.g_is_row (passes_call (takes_of rfl rfl rfl rfl) fun _ _ _ _ h => h) (pa_cons (pv 5) (pa_cons (pv 10) (pa_nil)))) (pe_bl) (nomark _))
      (pss_one (ps_ret (pe_bl)))
      (pss_nil))))))))))))))
      (pss_one (ps_ret (pe_bl))), ?_⟩)
  · obtain ⟨a, ns, rfl, _⟩ := h
    rfl
  · obtain ⟨a, xs0, rfl, hS, hl, k⟩ := h
    have hlen : (xs0.map V.int).length ≤ 63 := by rw [List.length_map]; exact hl
    (purse 7012 => fail)
    refine g_lenL hS ?_
    (purse 7012 => fail)
    refine g_loop (fun i σ H' => ∃ o1 o2 o3 o4 o5 o6 o7 o8 o9 o10, σ = [some (.ref a), o1, o2, o3, o4, o5, o6, o7, o8, o9, o10] ∧ Up H H') ⟨_, _, _, _, _, _, _, _, _, _, rfl, Up.rfl'⟩ ?_ ?_
    · rintro i σ H1 hi ⟨o1, o2, o3, o4, o5, o6, o7, o8, o9, o10, rfl, uH⟩
      (purse 7012 => fail)
      refine ⟨a, xs0, i, rfl, sql_up uH hS, fun sr sn sz H2 hsr c2 hs sd => ?_⟩
      have u2 : Up H1 H2 := upC c2
      have src2 : Src H2 sr := ⟨sn, sz, hs, sd⟩
      (purse 7012 => fail)
      refine g_pow10_8 ?_
      (purse 7012 => fail)
      refine g_l0 (by rfl) fun pl1 hpl1 => ?_
      have ul := Up.new (o := .lst [.int 4, .int 100000000]) hpl1
      have ql : upd H2 pl1 (.lst [.int 4, .int 100000000]) pl1 = some (.lst [.int 4, .int 100000000]) := upd_same
      have hsb := src2.up ul
      have nel : pl1 ≠ sr := fun z => by
        obtain ⟨_, _, q, _⟩ := src2
        rw [z, q] at hpl1; cases hpl1
      have uab := u2.trans ul
      generalize upd H2 pl1 (.lst [.int 4, .int 100000000]) = Hb at ul ql hsb uab ⊢
      (purse 7012 => fail)
      refine use_drawX hsb (by omega) (by omega) fun d2 Hc d20 d21 uc hsc => ?_
      have uac := up_of uab uc hsr
      obtain ⟨lg, elg, g1, g2⟩ : ∃ lg : Int, atI [V.int 4, .int 100000000] d2 = some (.int lg) ∧ 1 ≤ lg ∧ lg ≤ 100000000 := by
        rcases (show d2 = 0 ∨ d2 = 1 by omega) with rfl | rfl
        · exact ⟨4, rfl, by omega, by omega⟩
        · exact ⟨100000000, rfl, by omega, by omega⟩
      refine g_ixQ (SqL.of (uc _ _ nel ql)) elg ?_
      (purse 7012 => fail)
      refine use_drawX hsc (by omega) (by omega) fun d Ha d0 d1 ua hsa => ?_
      obtain ⟨dn, rfl⟩ : ∃ k : Nat, d = (k : Int) := ⟨d.toNat, by omega⟩
      have uaa := up_of uac ua hsr
      (purse 7012 => fail)
      rw [show (1 : Int) + (dn : Int) = ((dn + 1 : Nat) : Int) by omega]
      refine ⟨sr, dn + 1, lg, 5, true, rfl, hsa, by omega, by omega, by omega, by omega, g1, g2, fun pl N A' vs ws ns as H3 u3 hs3 hr3 hN tN hA tA neN neA nNA fN fA po => ?_⟩
      have u13 := up_of uaa u3 hsr
      have ok := po.ok
      have nl2 := ok.n2
      have nl1 := ok.n1
      (purse 7012 => fail)
      refine g_ixT hr3 (i := 0) (v := .ref N) rfl ?_
      (purse 7012 => fail)
      refine g_ixT hr3 (i := 1) (v := .ref A') rfl ?_
      (purse 7012 => fail)
      refine use_way ⟨⟨vs, .inl hN, tN⟩, ok.dd⟩ ⟨ws, .inl hA, Ats.of tA⟩ ok fun x H4 hx u4 wa4 => ?_
      have R4 : RS (ga K "Way") H1 H4 sr pl N A' x vs ws ns as := ⟨u13.trans u4, hs3.up u4, u4 _ _ hr3, ⟨u4 _ _ hN, tN.up u4⟩, ⟨u4 _ _ hA, tA.up u4⟩, wa4⟩
      (purse 7012 => fail)
      refine use_drawX R4.src (by omega) (by omega) fun d5 H5 d50 d51 u5 hs5 => ?_
      have R5 := R4.dr u5 hs5 hsr neN neA
      (purse 7012 => fail)
      refine ⟨sr, pl, N, A', vs, ws, ns, as, d5 - 50, rfl, R5.src, R5.pl, R5.n, R5.q, neN, neA, ok, by omega, by omega, fun rw1 xs row H6 u6 hs6 hrw tlr rk => ?_⟩
      have R6 := R5.dr u6 hs6 hsr neN neA
      have P6 : Pc H6 rw1 row := ⟨xs, hrw, tlr⟩
      have rlen := rk.len
      have rb0 : RB ns.length 1000000000000 row := fun q hq => ⟨rk.nd q hq, by have := rk.lo q hq; omega, by have := rk.hi q hq; omega⟩
      have rne : 1 ≤ row.length := by
        cases row with
        | nil => have := rk.ri; cases this
        | cons _ _ => exact Nat.succ_le_succ (Nat.zero_le _)
      (purse 7012 => fail)
      refine ⟨x, _, .tuple (row.map stD), ns, as, rfl, R6.wa, nl2, ok.dd, .tup hrw (row_pv tlr), fun ds e => (by cases e; rw [List.length_map]; omega), fun H7 u7 => ?_⟩
      rw [rowB_row (rb0.wide (by omega)), rk.ri]
      have R7 := R6.up u7
      have P7 := P6.up u7
      (purse 7012 => fail)
      refine ⟨true, true, rfl, rfl, ?_⟩
      (purse 7012 => fail)
      (purse 7016 => fail)
      (purse 7012 => fail)
      refine g_loop (fun j σ' H' => ∃ (o7 o8 : Option V), σ' = [some (V.ref a), some (V.int (i : Nat)), some (V.ref sr), some (V.int lg), some (V.ref pl), some (V.ref x), some (V.ref rw1), o7, o8, o9, o10] ∧ RS (ga K "Way") H1 H' sr pl N A' x vs ws ns as ∧ Pc H' rw1 row) ⟨_, _, rfl, R7, P7⟩ ?_ ?_
      · rintro j σ' H8 hj ⟨q7, q8, rfl, R8, P8⟩
        (purse 7012 => fail)
        refine ⟨sr, pl, N, A', rw1, vs, ns, row, rfl, ⟨fun _ _ _ e => e, R8.src, R8.pl, R8.n, P8⟩, neN, nl1, nl2, rb0, rne, by omega, fun r' row' H9 u9 hs9 p9 rb9 len9 => ?_⟩
        have R9 := R8.dr u9 hs9 hsr neN neA
        have P9 := P8.dr u9 R8.src
        obtain ⟨xs', hx', tl'⟩ := p9
        (purse 7012 => fail)
        refine ⟨x, _, .tuple (row'.map stD), ns, as, rfl, R9.wa, nl2, ok.dd, .tup hx' (row_pv tl'), fun ds e => (by cases e; rw [List.length_map]; omega), fun H10 u10 => ?_⟩
        rw [rowB_row rb9]
        have R10 := R9.up u10
        (purse 7012 => fail)
        refine ⟨pl, N, A', r', vs, ws, xs', ns, as, row', rfl, R10.pl, R10.n, R10.q, ok, u10 _ _ hx', tl'.up u10, fun q hq => (rb9 q hq).1, by omega, fun H11 u11 => ?_⟩
        have R11 := R10.up u11
        (purse 7012 => fail)
        rw [show (decide (rightB ns as row' = rightB ns as row')) = true from decide_eq_true rfl]
        (purse 7016 => fail)
        (purse 7012 => fail)
        exact ⟨_, _, rfl, R11, (P9.up u10).up u11⟩
      rintro σ' H8 ⟨w7, w8, rfl, R8, P8⟩
      (purse 7012 => fail)
      intro pdd hdd
      have upd0 := Up.new (o := .dK []) hdd
      have vpdd : Pv (upd H8 pdd (.dK [])) (.ref pdd) (.dict []) := .d0 upd_same
      have R19 := R8.up upd0
      have P19 := P8.up upd0
      generalize upd H8 pdd (.dK []) = Hdd at upd0 vpdd R19 P19 ⊢
      (purse 7012 => fail)
      obtain ⟨xsl, hxl, tll⟩ := P19
      refine ⟨rw1, xsl, rfl, .inr (SqT.of hxl), fun plr hlr => ?_⟩
      have ulr := Up.new (o := .lst xsl) hlr
      have vplr : Pv (upd Hdd plr (.lst xsl)) (.ref plr) (.list (row.map stD)) := .lst upd_same (row_pv (tll.up ulr))
      have vpdd := pv_up ulr vpdd
      have R18 := R19.up ulr
      generalize upd Hdd plr (.lst xsl) = Hlr at ulr vplr vpdd R18 ⊢
      (purse 7012 => fail)
      refine g_t0 (by rfl) fun p1 hnp1 => ?_
      have up1 := Up.new (o := .tup [.non]) hnp1
      have hp1 : upd Hlr p1 (.tup [.non]) p1 = some (.tup [.non]) := upd_same
      have vpdd := pv_up up1 vpdd
      have vplr := pv_up up1 vplr
      have R20 := R18.up up1
      generalize upd Hlr p1 (.tup [.non]) = Ho0 at up1 hp1 R20 vpdd vplr ⊢
      have vp1 : Pv Ho0 (.ref p1) (.tuple [.none]) := .tup hp1 (.cons .non .nil)
      (purse 7012 => fail)
      refine g_t0 (by rfl) fun p2x hnp2x => ?_
      have up2x := Up.new (o := .tup [.int 0]) hnp2x
      have hp2x : upd Ho0 p2x (.tup [.int 0]) p2x = some (.tup [.int 0]) := upd_same
      have vpdd := pv_up up2x vpdd
      have vplr := pv_up up2x vplr
      have vp1 := pv_up up2x vp1
      have R21 := R20.up up2x
      generalize upd Ho0 p2x (.tup [.int 0]) = Ho1 at up2x hp2x R21 vpdd vplr vp1 ⊢
      have vp2x : Pv Ho1 (.ref p2x) (.tuple [.int 0]) := .tup hp2x (.cons (.int 0) .nil)
      (purse 7012 => fail)
      refine g_t0 (by rfl) fun q3 hnq3 => ?_
      have uq3 := Up.new (o := .tup [.int 0]) hnq3
      have hq3 : upd Ho1 q3 (.tup [.int 0]) q3 = some (.tup [.int 0]) := upd_same
      have vpdd := pv_up uq3 vpdd
      have vplr := pv_up uq3 vplr
      have vp1 := pv_up uq3 vp1
      have vp2x := pv_up uq3 vp2x
      have R22 := R21.up uq3
      generalize upd Ho1 q3 (.tup [.int 0]) = Ho2 at uq3 hq3 R22 vpdd vplr vp1 vp2x ⊢
      have vq3 : Pv Ho2 (.ref q3) (.tuple [.int 0]) := .tup hq3 (.cons (.int 0) .nil)
      (purse 7012 => fail)
      refine g_t0 (by rfl) fun p3 hnp3 => ?_
      have up3 := Up.new (o := .tup [.ref q3]) hnp3
      have hp3 : upd Ho2 p3 (.tup [.ref q3]) p3 = some (.tup [.ref q3]) := upd_same
      have vpdd := pv_up up3 vpdd
      have vplr := pv_up up3 vplr
      have vp1 := pv_up up3 vp1
      have vp2x := pv_up up3 vp2x
      have vq3 := pv_up up3 vq3
      have R23 := R22.up up3
      generalize upd Ho2 p3 (.tup [.ref q3]) = Ho3 at up3 hp3 R23 vpdd vplr vp1 vp2x vq3 ⊢
      have vp3 : Pv Ho3 (.ref p3) (.tuple [.tuple [.int 0]]) := .tup hp3 (.cons vq3 .nil)
      (purse 7012 => fail)
      refine g_t0 (by rfl) fun q4 hnq4 => ?_
      have uq4 := Up.new (o := .tup [.int 0, .int 0, .int 0]) hnq4
      have hq4 : upd Ho3 q4 (.tup [.int 0, .int 0, .int 0]) q4 = some (.tup [.int 0, .int 0, .int 0]) := upd_same
      have vpdd := pv_up uq4 vpdd
      have vplr := pv_up uq4 vplr
      have vp1 := pv_up uq4 vp1
      have vp2x := pv_up uq4 vp2x
      have vp3 := pv_up uq4 vp3
      have R24 := R23.up uq4
      generalize upd Ho3 q4 (.tup [.int 0, .int 0, .int 0]) = Ho4 at uq4 hq4 R24 vpdd vplr vp1 vp2x vp3 ⊢
      have vq4 : Pv Ho4 (.ref q4) (.tuple [.int 0, .int 0, .int 0]) := .tup hq4 (.cons (.int 0) (.cons (.int 0) (.cons (.int 0) .nil)))
      (purse 7012 => fail)
      refine g_t0 (by rfl) fun p4 hnp4 => ?_
      have up4 := Up.new (o := .tup [.ref q4]) hnp4
      have hp4 : upd Ho4 p4 (.tup [.ref q4]) p4 = some (.tup [.ref q4]) := upd_same
      have vpdd := pv_up up4 vpdd
      have vplr := pv_up up4 vplr
      have vp1 := pv_up up4 vp1
      have vp2x := pv_up up4 vp2x
      have vp3 := pv_up up4 vp3
      have vq4 := pv_up up4 vq4
      have R25 := R24.up up4
      generalize upd Ho4 p4 (.tup [.ref q4]) = Ho5 at up4 hp4 R25 vpdd vplr vp1 vp2x vp3 vq4 ⊢
      have vp4 : Pv Ho5 (.ref p4) (.tuple [.tuple [.int 0, .int 0, .int 0]]) := .tup hp4 (.cons vq4 .nil)
      (purse 7012 => fail)
      refine g_l0 (by rfl) fun q5 hnq5 => ?_
      have uq5 := Up.new (o := .lst [.int 0, .int 0]) hnq5
      have hq5 : upd Ho5 q5 (.lst [.int 0, .int 0]) q5 = some (.lst [.int 0, .int 0]) := upd_same
      have vpdd := pv_up uq5 vpdd
      have vplr := pv_up uq5 vplr
      have vp1 := pv_up uq5 vp1
      have vp2x := pv_up uq5 vp2x
      have vp3 := pv_up uq5 vp3
      have vp4 := pv_up uq5 vp4
      have R26 := R25.up uq5
      generalize upd Ho5 q5 (.lst [.int 0, .int 0]) = Ho6 at uq5 hq5 R26 vpdd vplr vp1 vp2x vp3 vp4 ⊢
      have vq5 : Pv Ho6 (.ref q5) (.list [.int 0, .int 0]) := .lst hq5 (.cons (.int 0) (.cons (.int 0) .nil))
      (purse 7012 => fail)
      refine g_t0 (by rfl) fun p5 hnp5 => ?_
      have up5 := Up.new (o := .tup [.ref q5]) hnp5
      have hp5 : upd Ho6 p5 (.tup [.ref q5]) p5 = some (.tup [.ref q5]) := upd_same
      have vpdd := pv_up up5 vpdd
      have vplr := pv_up up5 vplr
      have vp1 := pv_up up5 vp1
      have vp2x := pv_up up5 vp2x
      have vp3 := pv_up up5 vp3
      have vp4 := pv_up up5 vp4
      have vq5 := pv_up up5 vq5
      have R27 := R26.up up5
      generalize upd Ho6 p5 (.tup [.ref q5]) = Ho7 at up5 hp5 R27 vpdd vplr vp1 vp2x vp3 vp4 vq5 ⊢
      have vp5 : Pv Ho7 (.ref p5) (.tuple [.list [.int 0, .int 0]]) := .tup hp5 (.cons vq5 .nil)
      (purse 7012 => fail)
      refine g_t0 (by rfl) fun q6 hnq6 => ?_
      have uq6 := Up.new (o := .tup [.bl true, .int 0]) hnq6
      have hq6 : upd Ho7 q6 (.tup [.bl true, .int 0]) q6 = some (.tup [.bl true, .int 0]) := upd_same
      have vpdd := pv_up uq6 vpdd
      have vplr := pv_up uq6 vplr
      have vp1 := pv_up uq6 vp1
      have vp2x := pv_up uq6 vp2x
      have vp3 := pv_up uq6 vp3
      have vp4 := pv_up uq6 vp4
      have vp5 := pv_up uq6 vp5
      have R28 := R27.up uq6
      generalize upd Ho7 q6 (.tup [.bl true, .int 0]) = Ho8 at uq6 hq6 R28 vpdd vplr vp1 vp2x vp3 vp4 vp5 ⊢
      have vq6 : Pv Ho8 (.ref q6) (.tuple [.bool true, .int 0]) := .tup hq6 (.cons (.bl true) (.cons (.int 0) .nil))
      (purse 7012 => fail)
      refine g_t0 (by rfl) fun p6 hnp6 => ?_
      have up6 := Up.new (o := .tup [.ref q6]) hnp6
      have hp6 : upd Ho8 p6 (.tup [.ref q6]) p6 = some (.tup [.ref q6]) := upd_same
      have vpdd := pv_up up6 vpdd
      have vplr := pv_up up6 vplr
      have vp1 := pv_up up6 vp1
      have vp2x := pv_up up6 vp2x
      have vp3 := pv_up up6 vp3
      have vp4 := pv_up up6 vp4
      have vp5 := pv_up up6 vp5
      have vq6 := pv_up up6 vq6
      have R29 := R28.up up6
      generalize upd Ho8 p6 (.tup [.ref q6]) = Ho9 at up6 hp6 R29 vpdd vplr vp1 vp2x vp3 vp4 vp5 vq6 ⊢
      have vp6 : Pv Ho9 (.ref p6) (.tuple [.tuple [.bool true, .int 0]]) := .tup hp6 (.cons vq6 .nil)
      (purse 7012 => fail)
      refine g_t0 (by rfl) fun q7 hnq7 => ?_
      have uq7 := Up.new (o := .tup [.int 0, .bl true]) hnq7
      have hq7 : upd Ho9 q7 (.tup [.int 0, .bl true]) q7 = some (.tup [.int 0, .bl true]) := upd_same
      have vpdd := pv_up uq7 vpdd
      have vplr := pv_up uq7 vplr
      have vp1 := pv_up uq7 vp1
      have vp2x := pv_up uq7 vp2x
      have vp3 := pv_up uq7 vp3
      have vp4 := pv_up uq7 vp4
      have vp5 := pv_up uq7 vp5
      have vp6 := pv_up uq7 vp6
      have R30 := R29.up uq7
      generalize upd Ho9 q7 (.tup [.int 0, .bl true]) = Ho10 at uq7 hq7 R30 vpdd vplr vp1 vp2x vp3 vp4 vp5 vp6 ⊢
      have vq7 : Pv Ho10 (.ref q7) (.tuple [.int 0, .bool true]) := .tup hq7 (.cons (.int 0) (.cons (.bl true) .nil))
      (purse 7012 => fail)
      refine g_t0 (by rfl) fun p7 hnp7 => ?_
      have up7 := Up.new (o := .tup [.ref q7]) hnp7
      have hp7 : upd Ho10 p7 (.tup [.ref q7]) p7 = some (.tup [.ref q7]) := upd_same
      have vpdd := pv_up up7 vpdd
      have vplr := pv_up up7 vplr
      have vp1 := pv_up up7 vp1
      have vp2x := pv_up up7 vp2x
      have vp3 := pv_up up7 vp3
      have vp4 := pv_up up7 vp4
      have vp5 := pv_up up7 vp5
      have vp6 := pv_up up7 vp6
      have vq7 := pv_up up7 vq7
      have R31 := R30.up up7
      generalize upd Ho10 p7 (.tup [.ref q7]) = Ho11 at up7 hp7 R31 vpdd vplr vp1 vp2x vp3 vp4 vp5 vp6 vq7 ⊢
      have vp7 : Pv Ho11 (.ref p7) (.tuple [.tuple [.int 0, .bool true]]) := .tup hp7 (.cons vq7 .nil)
      (purse 7012 => fail)
      refine g_l0 (by rfl) fun pO hnpO => ?_
      have upO := Up.new (o := .lst [.non, .int 7, .str "row", .ref pdd, .ref plr, .ref p1, .ref p2x, .ref p3, .ref p4, .ref p5, .ref p6, .ref p7]) hnpO
      have hpO : upd Ho11 pO (.lst [.non, .int 7, .str "row", .ref pdd, .ref plr, .ref p1, .ref p2x, .ref p3, .ref p4, .ref p5, .ref p6, .ref p7]) pO = some (.lst [.non, .int 7, .str "row", .ref pdd, .ref plr, .ref p1, .ref p2x, .ref p3, .ref p4, .ref p5, .ref p6, .ref p7]) := upd_same
      have vpdd := pv_up upO vpdd
      have vplr := pv_up upO vplr
      have vp1 := pv_up upO vp1
      have vp2x := pv_up upO vp2x
      have vp3 := pv_up upO vp3
      have vp4 := pv_up upO vp4
      have vp5 := pv_up upO vp5
      have vp6 := pv_up upO vp6
      have vp7 := pv_up upO vp7
      have R32 := R31.up upO
      generalize upd Ho11 pO (.lst [.non, .int 7, .str "row", .ref pdd, .ref plr, .ref p1, .ref p2x, .ref p3, .ref p4, .ref p5, .ref p6, .ref p7]) = Ho12 at upO hpO R32 vpdd vplr vp1 vp2x vp3 vp4 vp5 vp6 vp7 ⊢
      (purse 7012 => fail)
      (purse 7012 => fail)
      refine g_ixT R32.pl (i := 0) (v := .ref N) rfl ?_
      (purse 7012 => fail)
      refine g_lenl R32.n.h ?_
      have vsl := R32.n.t.len
      (purse 7012 => fail)
      refine g_t0 (by rfl) fun q8 hnq8 => ?_
      have uq8 := Up.new (o := .tup [.int (vs.length : Nat), .int 0]) hnq8
      have hq8 : upd Ho12 q8 (.tup [.int (vs.length : Nat), .int 0]) q8 = some (.tup [.int (vs.length : Nat), .int 0]) := upd_same
      have vpdd := pv_up uq8 vpdd
      have vplr := pv_up uq8 vplr
      have vp1 := pv_up uq8 vp1
      have vp2x := pv_up uq8 vp2x
      have vp3 := pv_up uq8 vp3
      have vp4 := pv_up uq8 vp4
      have vp5 := pv_up uq8 vp5
      have vp6 := pv_up uq8 vp6
      have vp7 := pv_up uq8 vp7
      have hpO := uq8 _ _ hpO
      have R33 := R32.up uq8
      generalize upd Ho12 q8 (.tup [.int (vs.length : Nat), .int 0]) = Ho13 at uq8 hq8 R33 vpdd vplr vp1 vp2x vp3 vp4 vp5 vp6 vp7 hpO ⊢
      have vq8 : Pv Ho13 (.ref q8) (.tuple [.int (vs.length : Nat), .int 0]) := .tup hq8 (.cons (.int _) (.cons (.int 0) .nil))
      (purse 7012 => fail)
      refine g_t0 (by rfl) fun p8 hnp8 => ?_
      have up8 := Up.new (o := .tup [.ref q8]) hnp8
      have hp8 : upd Ho13 p8 (.tup [.ref q8]) p8 = some (.tup [.ref q8]) := upd_same
      have vpdd := pv_up up8 vpdd
      have vplr := pv_up up8 vplr
      have vp1 := pv_up up8 vp1
      have vp2x := pv_up up8 vp2x
      have vp3 := pv_up up8 vp3
      have vp4 := pv_up up8 vp4
      have vp5 := pv_up up8 vp5
      have vp6 := pv_up up8 vp6
      have vp7 := pv_up up8 vp7
      have vq8 := pv_up up8 vq8
      have hpO := up8 _ _ hpO
      have R34 := R33.up up8
      generalize upd Ho13 p8 (.tup [.ref q8]) = Ho14 at up8 hp8 R34 vpdd vplr vp1 vp2x vp3 vp4 vp5 vp6 vp7 vq8 hpO ⊢
      have vp8 : Pv Ho14 (.ref p8) (.tuple [.tuple [.int (vs.length : Nat), .int 0]]) := .tup hp8 (.cons vq8 .nil)
      (purse 7012 => fail)
      refine g_t0 (by rfl) fun q9 hnq9 => ?_
      have uq9 := Up.new (o := .tup [.int (-1), .int 0]) hnq9
      have hq9 : upd Ho14 q9 (.tup [.int (-1), .int 0]) q9 = some (.tup [.int (-1), .int 0]) := upd_same
      have vpdd := pv_up uq9 vpdd
      have vplr := pv_up uq9 vplr
      have vp1 := pv_up uq9 vp1
      have vp2x := pv_up uq9 vp2x
      have vp3 := pv_up uq9 vp3
      have vp4 := pv_up uq9 vp4
      have vp5 := pv_up uq9 vp5
      have vp6 := pv_up uq9 vp6
      have vp7 := pv_up uq9 vp7
      have vp8 := pv_up uq9 vp8
      have hpO := uq9 _ _ hpO
      have R35 := R34.up uq9
      generalize upd Ho14 q9 (.tup [.int (-1), .int 0]) = Ho15 at uq9 hq9 R35 vpdd vplr vp1 vp2x vp3 vp4 vp5 vp6 vp7 vp8 hpO ⊢
      have vq9 : Pv Ho15 (.ref q9) (.tuple [.int (-1), .int 0]) := .tup hq9 (.cons (.int (-1)) (.cons (.int 0) .nil))
      (purse 7012 => fail)
      refine g_t0 (by rfl) fun p9 hnp9 => ?_
      have up9 := Up.new (o := .tup [.ref q9]) hnp9
      have hp9 : upd Ho15 p9 (.tup [.ref q9]) p9 = some (.tup [.ref q9]) := upd_same
      have vpdd := pv_up up9 vpdd
      have vplr := pv_up up9 vplr
      have vp1 := pv_up up9 vp1
      have vp2x := pv_up up9 vp2x
      have vp3 := pv_up up9 vp3
      have vp4 := pv_up up9 vp4
      have vp5 := pv_up up9 vp5
      have vp6 := pv_up up9 vp6
      have vp7 := pv_up up9 vp7
      have vp8 := pv_up up9 vp8
      have vq9 := pv_up up9 vq9
      have hpO := up9 _ _ hpO
      have R36 := R35.up up9
      generalize upd Ho15 p9 (.tup [.ref q9]) = Ho16 at up9 hp9 R36 vpdd vplr vp1 vp2x vp3 vp4 vp5 vp6 vp7 vp8 vq9 hpO ⊢
      have vp9 : Pv Ho16 (.ref p9) (.tuple [.tuple [.int (-1), .int 0]]) := .tup hp9 (.cons vq9 .nil)
      (purse 7012 => fail)
      refine g_t0 (by rfl) fun q10 hnq10 => ?_
      have uq10 := Up.new (o := .tup [.int 0, .str "0"]) hnq10
      have hq10 : upd Ho16 q10 (.tup [.int 0, .str "0"]) q10 = some (.tup [.int 0, .str "0"]) := upd_same
      have vpdd := pv_up uq10 vpdd
      have vplr := pv_up uq10 vplr
      have vp1 := pv_up uq10 vp1
      have vp2x := pv_up uq10 vp2x
      have vp3 := pv_up uq10 vp3
      have vp4 := pv_up uq10 vp4
      have vp5 := pv_up uq10 vp5
      have vp6 := pv_up uq10 vp6
      have vp7 := pv_up uq10 vp7
      have vp8 := pv_up uq10 vp8
      have vp9 := pv_up uq10 vp9
      have hpO := uq10 _ _ hpO
      have R37 := R36.up uq10
      generalize upd Ho16 q10 (.tup [.int 0, .str "0"]) = Ho17 at uq10 hq10 R37 vpdd vplr vp1 vp2x vp3 vp4 vp5 vp6 vp7 vp8 vp9 hpO ⊢
      have vq10 : Pv Ho17 (.ref q10) (.tuple [.int 0, .str "0"]) := .tup hq10 (.cons (.int 0) (.cons (.str "0") .nil))
      (purse 7012 => fail)
      refine g_t0 (by rfl) fun p10 hnp10 => ?_
      have up10 := Up.new (o := .tup [.ref q10]) hnp10
      have hp10 : upd Ho17 p10 (.tup [.ref q10]) p10 = some (.tup [.ref q10]) := upd_same
      have vpdd := pv_up up10 vpdd
      have vplr := pv_up up10 vplr
      have vp1 := pv_up up10 vp1
      have vp2x := pv_up up10 vp2x
      have vp3 := pv_up up10 vp3
      have vp4 := pv_up up10 vp4
      have vp5 := pv_up up10 vp5
      have vp6 := pv_up up10 vp6
      have vp7 := pv_up up10 vp7
      have vp8 := pv_up up10 vp8
      have vp9 := pv_up up10 vp9
      have vq10 := pv_up up10 vq10
      have hpO := up10 _ _ hpO
      have R38 := R37.up up10
      generalize upd Ho17 p10 (.tup [.ref q10]) = Ho18 at up10 hp10 R38 vpdd vplr vp1 vp2x vp3 vp4 vp5 vp6 vp7 vp8 vp9 vq10 hpO ⊢
      have vp10 : Pv Ho18 (.ref p10) (.tuple [.tuple [.int 0, .str "0"]]) := .tup hp10 (.cons vq10 .nil)
      (purse 7012 => fail)
      refine g_l0 (by rfl) fun pP hnpP => ?_
      have upP := Up.new (o := .lst [.ref p8, .ref p9, .ref p10]) hnpP
      have hpP : upd Ho18 pP (.lst [.ref p8, .ref p9, .ref p10]) pP = some (.lst [.ref p8, .ref p9, .ref p10]) := upd_same
      have vpdd := pv_up upP vpdd
      have vplr := pv_up upP vplr
      have vp1 := pv_up upP vp1
      have vp2x := pv_up upP vp2x
      have vp3 := pv_up upP vp3
      have vp4 := pv_up upP vp4
      have vp5 := pv_up upP vp5
      have vp6 := pv_up upP vp6
      have vp7 := pv_up upP vp7
      have vp8 := pv_up upP vp8
      have vp9 := pv_up upP vp9
      have vp10 := pv_up upP vp10
      have hpO := upP _ _ hpO
      have R39 := R38.up upP
      generalize upd Ho18 pP (.lst [.ref p8, .ref p9, .ref p10]) = Ho19 at upP hpP R39 vpdd vplr vp1 vp2x vp3 vp4 vp5 vp6 vp7 vp8 vp9 vp10 hpO ⊢
      (purse 7012 => fail)
      refine ⟨pO, pP, [.non, .int 7, .str "row", .ref pdd, .ref plr, .ref p1, .ref p2x, .ref p3, .ref p4, .ref p5, .ref p6, .ref p7], [.ref p8, .ref p9, .ref p10], rfl, rfl, hpO, hpP, Nat.le_of_lt (small1000 (by show 12 + 3 ≤ 1000; decide)), fun pQ hnQ => ?_⟩
      have uQ := Up.new (o := .lst ([.non, .int 7, .str "row", .ref pdd, .ref plr, .ref p1, .ref p2x, .ref p3, .ref p4, .ref p5, .ref p6, .ref p7] ++ [.ref p8, .ref p9, .ref p10])) hnQ
      have hQ : upd Ho19 pQ (.lst ([.non, .int 7, .str "row", .ref pdd, .ref plr, .ref p1, .ref p2x, .ref p3, .ref p4, .ref p5, .ref p6, .ref p7] ++ [.ref p8, .ref p9, .ref p10])) pQ = some (.lst ([.non, .int 7, .str "row", .ref pdd, .ref plr, .ref p1, .ref p2x, .ref p3, .ref p4, .ref p5, .ref p6, .ref p7] ++ [.ref p8, .ref p9, .ref p10])) := upd_same
      have vpdd := pv_up uQ vpdd
      have vplr := pv_up uQ vplr
      have vp1 := pv_up uQ vp1
      have vp2x := pv_up uQ vp2x
      have vp3 := pv_up uQ vp3
      have vp4 := pv_up uQ vp4
      have vp5 := pv_up uQ vp5
      have vp6 := pv_up uQ vp6
      have vp7 := pv_up uQ vp7
      have vp8 := pv_up uQ vp8
      have vp9 := pv_up uQ vp9
      have vp10 := pv_up uQ vp10
      have RQ := R39.up uQ
      generalize upd Ho19 pQ (.lst ([.non, .int 7, .str "row", .ref pdd, .ref plr, .ref p1, .ref p2x, .ref p3, .ref p4, .ref p5, .ref p6, .ref p7] ++ [.ref p8, .ref p9, .ref p10])) = HQ at uQ hQ RQ vpdd vplr vp1 vp2x vp3 vp4 vp5 vp6 vp7 vp8 vp9 vp10 ⊢
      (purse 7012 => fail)
      have bad : ∀ v, v ∈ ([.non, .int 7, .str "row", .ref pdd, .ref plr, .ref p1, .ref p2x, .ref p3, .ref p4, .ref p5, .ref p6, .ref p7] ++ [.ref p8, .ref p9, .ref p10] : List V) → ∃ d, Pv HQ v d ∧ rowB ns as d = false ∧ ∀ ds, d = .tuple ds → ds.length ≤ 900 := by
        intro v hv
        have hv : v ∈ ([.non, .int 7, .str "row", .ref pdd, .ref plr, .ref p1, .ref p2x, .ref p3, .ref p4, .ref p5, .ref p6, .ref p7, .ref p8, .ref p9, .ref p10] : List V) := hv
        simp only [List.mem_cons, List.not_mem_nil, or_false] at hv
        rcases hv with rfl | rfl | rfl | rfl | rfl | rfl | rfl | rfl | rfl | rfl | rfl | rfl | rfl | rfl | rfl
        · exact ⟨.none, .non, rfl, (fun ds e => by cases e)⟩
        · exact ⟨.int 7, .int 7, rfl, (fun ds e => by cases e)⟩
        · exact ⟨.str "row", .str "row", rfl, (fun ds e => by cases e)⟩
        · exact ⟨.dict [], vpdd, rfl, (fun ds e => by cases e)⟩
        · exact ⟨.list (row.map stD), vplr, rfl, (fun ds e => by cases e)⟩
        · exact ⟨(.tuple [.none]), vp1, row1_false rfl, (fun ds e => by cases e; show 1 ≤ 900; decide)⟩
        · exact ⟨(.tuple [.int 0]), vp2x, row1_false rfl, (fun ds e => by cases e; show 1 ≤ 900; decide)⟩
        · exact ⟨(.tuple [.tuple [.int 0]]), vp3, row1_false rfl, (fun ds e => by cases e; show 1 ≤ 900; decide)⟩
        · exact ⟨(.tuple [.tuple [.int 0, .int 0, .int 0]]), vp4, row1_false rfl, (fun ds e => by cases e; show 1 ≤ 900; decide)⟩
        · exact ⟨(.tuple [.list [.int 0, .int 0]]), vp5, row1_false rfl, (fun ds e => by cases e; show 1 ≤ 900; decide)⟩
        · exact ⟨(.tuple [.tuple [.bool true, .int 0]]), vp6, row1_false rfl, (fun ds e => by cases e; show 1 ≤ 900; decide)⟩
        · exact ⟨(.tuple [.tuple [.int 0, .bool true]]), vp7, row1_false (by show (_ && false) = false; rw [Bool.and_false]), (fun ds e => by cases e; show 1 ≤ 900; decide)⟩
        · exact ⟨(.tuple [.tuple [.int (vs.length : Nat), .int 0]]), vp8, row1_false (by show (decide ((0:Int) ≤ ((vs.length : Nat) : Int)) && decide (((vs.length : Nat) : Int) < (ns.length : Int)) && _) = false; rw [decide_eq_false (show ¬ ((vs.length : Nat) : Int) < (ns.length : Int) by omega), Bool.and_false]; rfl), (fun ds e => by cases e; show 1 ≤ 900; decide)⟩
        · exact ⟨(.tuple [.tuple [.int (-1), .int 0]]), vp9, row1_false rfl, (fun ds e => by cases e; show 1 ≤ 900; decide)⟩
        · exact ⟨(.tuple [.tuple [.int 0, .str "0"]]), vp10, row1_false (by show (_ && false) = false; rw [Bool.and_false]), (fun ds e => by cases e; show 1 ≤ 900; decide)⟩
      refine ⟨pQ, rfl, ⟨_, SqL.of hQ⟩, for_list (K := K) (xs := [.non, .int 7, .str "row", .ref pdd, .ref plr, .ref p1, .ref p2x, .ref p3, .ref p4, .ref p5, .ref p6, .ref p7] ++ [.ref p8, .ref p9, .ref p10]) (fun j σ' H' => ∃ (o10 : Option V), σ' = [some (V.ref a), some (V.int (i : Nat)), some (V.ref sr), some (V.int lg), some (V.ref pl), some (V.ref x), some (V.ref rw1), w7, w8, some (V.ref pO), o10] ∧ Up HQ H') ⟨_, rfl, Up.rfl'⟩ ?_ ?_ ?_⟩
      · rintro j σ' H' _ ⟨w10, rfl, uu⟩
        exact SqL.of (uu _ _ hQ)
      · rintro j v σ' H' hv ⟨w10, rfl, uu⟩
        obtain ⟨d, pv1, rf, few⟩ := bad v (List.mem_of_getElem? hv)
        (purse 7012 => fail)
        refine ⟨x, v, d, ns, as, rfl, (RQ.up uu).wa, nl2, ok.dd, pv_up uu pv1, few, fun H'' u' => ?_⟩
        rw [rf]
        (purse 7012 => fail)
        refine ⟨false, false, rfl, rfl, ?_⟩
        (purse 7012 => fail)
        (purse 7016 => fail)
        (purse 7012 => fail)
        exact ⟨_, rfl, uu.trans u'⟩
      · rintro σ' H' ⟨w10, rfl, uu⟩
        (purse 7012 => fail)
        exact ⟨_, _, _, _, _, _, _, _, _, _, rfl, uH.trans (RQ.u.trans uu)⟩
    · rintro σ2 H2 ⟨o1, o2, o3, o4, o5, o6, o7, o8, o9, o10, rfl, _⟩
      (purse 7012 => fail)
      exact k _
end

end KW
namespace KW
open PySem PySem.Spec PyProof.Rows L2 AF
open K1
section
open He
theorem lenB_ok {K : PySem.W.Frag} {C f : Addr} (h : lenB K C f = true) : LenO K C f := by
  have h := Bool.and_eq_true_iff.mp h
  exact ⟨eqO_ok h.1, h.2⟩
theorem all_ok {P : Program} {w : World} {K : PySem.W.Frag} {h : Heap} {mg : Str → Option Value} {f : Addr} (X : K.In h) (G : h.Ns mainGlobals mg) (hfa : mg ("law" : Str) = some (.ref f)) (c : TellsT hfacts hdefs htabs w K) :
    ∃ fd : FuncData, (∀ (s : Shared) (v : Value), BindsTo s fd ⟨[v], []⟩ [("script", v)]) ∧ ∀ base : Heap, K.In base → base.Ns mainGlobals mg → FnOk P w K mg base (L2.CX P w) 18 f fd ["script"] (spLaw K) := by
  have nw1 := nowB_ok (c.d.fact 10 (b := nowB K (ga K "SET_NOW") "make" ["read", "written", "changed"]) rfl)
  have nw2 := nowB_ok (c.d.fact 11 (b := nowB K (ga K "SET_NOW") "read" []) rfl)
  have nw3 := nowB_ok (c.d.fact 12 (b := nowB K (ga K "SET_NOW") "write" ["written", "changed"]) rfl)
  have nw4 := nowB_ok (c.d.fact 13 (b := nowB K (ga K "SET_NOW") "rename" ["changed"]) rfl)
  have nw5 := nowB_ok (c.d.fact 14 (b := nowB K (ga K "SET_NOW") "touch" ["read", "written", "changed"]) rfl)
  have nw6 := nowB_ok (c.d.fact 15 (b := nowB K (ga K "SET_NOW") "unpack" ["read", "changed"]) rfl)
  have nw7 := nowB_ok (c.d.fact 16 (b := nowB K (ga K "SET_NOW") "setback" ["changed"]) rfl)
  have bk1 := nowB_ok (c.d.fact 17 (b := nowB K (ga K "SET_BACK") "unpack" ["written"]) rfl)
  have bk2 := nowB_ok (c.d.fact 18 (b := nowB K (ga K "SET_BACK") "setback" ["read", "written"]) rfl)
  have T : TL14 K w mg := {
    g_is_whole := glo_ok X G (c.d.fact 0 (b := (Fa.glo "is_whole").ok K) rfl),
    g_is_time := glo_ok X G (c.d.fact 1 (b := (Fa.glo "is_time").ok K) rfl),
    g_is_deed := glo_ok X G (c.d.fact 2 (b := (Fa.glo "is_deed").ok K) rfl),
    g_makes := glo_ok X G (c.d.fact 3 (b := (Fa.glo "makes").ok K) rfl),
    z_isinstance := free_ok X G (c.d.fact 4 (b := (Fa.free "isinstance").ok K) rfl),
    z_len := free_ok X G (c.d.fact 5 (b := (Fa.free "len").ok K) rfl),
    z_int := free_ok X G (c.d.fact 6 (b := (Fa.free "int").ok K) rfl),
    z_bool := free_ok X G (c.d.fact 7 (b := (Fa.free "bool").ok K) rfl),
    z_tuple := free_ok X G (c.d.fact 8 (b := (Fa.free "tuple").ok K) rfl),
    z_str := free_ok X G (c.d.fact 9 (b := (Fa.free "str").ok K) rfl),
    v_SET_NOW := ⟨_, glo_ok X G (c.d.fact 21 (b := (Fa.glo "SET_NOW").ok K) rfl), rfl⟩,
    v_SET_BACK := ⟨_, glo_ok X G (c.d.fact 22 (b := (Fa.glo "SET_BACK").ok K) rfl), rfl⟩,
    dn := c.tab 0,
    db := c.tab 1,
    now0 := fun x hx => by
      simp only [List.mem_cons, List.not_mem_nil, or_false] at hx
      rcases hx with rfl | rfl | rfl | rfl | rfl
      · exact now_some nw1
      · exact now_some nw2
      · exact now_some nw3
      · exact now_some nw4
      · exact now_some nw5,
    now1 := fun x hx => by
      simp only [List.mem_cons, List.not_mem_nil, or_false] at hx
      rcases hx with rfl | rfl
      · exact now_some nw6
      · exact now_some nw7,
    back1 := fun x hx => by
      simp only [List.mem_cons, List.not_mem_nil, or_false] at hx
      rcases hx with rfl | rfl
      · exact now_some bk1
      · exact now_some bk2,
    back0 := fun x hx => eqO_ok (List.all_eq_true.mp (c.d.fact 23 (b := (["make", "read", "write", "rename", "touch"] : List Str).all fun x => eqO (PySem.W.nsIn K (ga K "SET_BACK") x) (some none)) rfl) x hx),
    g_NoWay := glo_ok X G (c.d.fact 25 (b := (Fa.glo "NoWay").ok K) rfl),
    g_is_list := glo_ok X G (c.d.fact 26 (b := (Fa.glo "is_list").ok K) rfl),
    g_Way := glo_ok X G (c.d.fact 27 (b := (Fa.glo "Way").ok K) rfl),
    g_is_place := glo_ok X G (c.d.fact 28 (b := (Fa.glo "is_place").ok K) rfl),
    g_is_arrow := glo_ok X G (c.d.fact 29 (b := (Fa.glo "is_arrow").ok K) rfl),
    g_with_word := glo_ok X G (c.d.fact 30 (b := (Fa.glo "with_word").ok K) rfl),
    g_check_nodes := glo_ok X G (c.d.fact 31 (b := (Fa.glo "check_nodes").ok K) rfl),
    g_check_arrows := glo_ok X G (c.d.fact 32 (b := (Fa.glo "check_arrows").ok K) rfl),
    g_check_anew := glo_ok X G (c.d.fact 33 (b := (Fa.glo "check_anew").ok K) rfl),
    g_check_reached := glo_ok X G (c.d.fact 34 (b := (Fa.glo "check_reached").ok K) rfl),
    g_is_moment := glo_ok X G (c.d.fact 35 (b := (Fa.glo "is_moment").ok K) rfl),
    g_check_way := glo_ok X G (c.d.fact 36 (b := (Fa.glo "check_way").ok K) rfl),
    g_is_row := glo_ok X G (c.d.fact 37 (b := (Fa.glo "is_row").ok K) rfl),
    g_is_step := glo_ok X G (c.d.fact 38 (b := (Fa.glo "is_step").ok K) rfl),
    g_follows := glo_ok X G (c.d.fact 39 (b := (Fa.glo "follows").ok K) rfl),
    g_law_source := glo_ok X G (c.d.fact 40 (b := (Fa.glo "_law_source").ok K) rfl),
    g_law_draw := glo_ok X G (c.d.fact 41 (b := (Fa.glo "_law_draw").ok K) rfl),
    g_law_pick := glo_ok X G (c.d.fact 42 (b := (Fa.glo "_law_pick").ok K) rfl),
    g_law_maker := glo_ok X G (c.d.fact 43 (b := (Fa.glo "_law_maker").ok K) rfl),
    g_law_user := glo_ok X G (c.d.fact 44 (b := (Fa.glo "_law_user").ok K) rfl),
    g_law_arrow := glo_ok X G (c.d.fact 45 (b := (Fa.glo "_law_arrow").ok K) rfl),
    g_law_plan := glo_ok X G (c.d.fact 46 (b := (Fa.glo "_law_plan").ok K) rfl),
    g_law_row := glo_ok X G (c.d.fact 47 (b := (Fa.glo "_law_row").ok K) rfl),
    g_law_right := glo_ok X G (c.d.fact 48 (b := (Fa.glo "_law_right").ok K) rfl),
    g_law_bent := glo_ok X G (c.d.fact 49 (b := (Fa.glo "_law_bent").ok K) rfl),
    z_list := free_ok X G (c.d.fact 50 (b := (Fa.free "list").ok K) rfl),
    z_set := free_ok X G (c.d.fact 51 (b := (Fa.free "set").ok K) rfl),
    z_enumerate := free_ok X G (c.d.fact 52 (b := (Fa.free "enumerate").ok K) rfl),
    z_range := free_ok X G (c.d.fact 53 (b := (Fa.free "range").ok K) rfl),
    z_abs := free_ok X G (c.d.fact 20 (b := (Fa.free "abs").ok K) rfl),
    z_max := free_ok X G (c.d.fact 24 (b := (Fa.free "max").ok K) rfl),
    z_min := free_ok X G (c.d.fact 54 (b := (Fa.free "min").ok K) rfl),
    z_zip := free_ok X G (c.d.fact 55 (b := (Fa.free "zip").ok K) rfl),
    z_all := free_ok X G (c.d.fact 56 (b := (Fa.free "all").ok K) rfl),
    v_WORDS := ⟨_, glo_ok X G (c.d.fact 57 (b := (Fa.glo "WORDS").ok K) rfl), rfl⟩,
    words := ktB_ok (c.d.fact 58 (b := ktB K (ga K "WORDS") ["", "held", "anew"]) rfl),
    cl := cls_ok (c.d.fact 59 (b := (Fa.cls "Way").ok K) rfl),
    nD := noat_ok (c.d.fact 60 (b := (Fa.noat "Way" "deeds").ok K) rfl),
    nL := noat_ok (c.d.fact 61 (b := (Fa.noat "Way" "links").ok K) rfl),
    ic := insB_ok (cls_ok (c.d.fact 59 (b := (Fa.cls "Way").ok K) rfl)) (c.d.fact 62 (b := insB K (ga K "Way")) rfl),
    kl := of_decide_eq_true (c.d.fact 63 (b := decide (PySem.W.kitOne K (.type "list") (.ref (ga K "Way")) = some false)) rfl),
    lo := lenB_ok (c.d.fact 64 (b := lenB K (ga K "Way") (ma K (ga K "Way") "__len__")) rfl),
    gi := giB_ok (c.d.fact 65 (b := giB K (ga K "Way") (ma K (ga K "Way") "__getitem__")) rfl) }
  have tw : TW K w mg := T.toTW
  have tl : TWl K mg := T.toTWl
  have tp : TPk K mg := tl.toTPk
  have tr : TR14 K w mg := T.toTR14
  have tb : TB14 K mg := T.toTB14
  obtain ⟨fd0, F0⟩ := c.d.def_ 0 rfl
  have F0 : FnP K "law" "law" s_law (ga K "law") fd0 := F0
  obtain ⟨fd1, F1⟩ := c.d.def_ 1 rfl
  have F1 : FnP K "_law_source" "_law_source" s_law_source (ga K "_law_source") fd1 := F1
  have b1 : Binds K fd1 ["script", "turn"] [] := F1.bindsN fun _ _ _ _ _ _ us hl => match us, hl with | [_, _], _ => rfl
  obtain ⟨fd2, F2⟩ := c.d.def_ 2 rfl
  have F2 : FnP K "_law_draw" "_law_draw" s_law_draw (ga K "_law_draw") fd2 := F2
  have b2 : Binds K fd2 ["source", "amount"] [] := F2.bindsN fun _ _ _ _ _ _ us hl => match us, hl with | [_, _], _ => rfl
  obtain ⟨fd3, F3⟩ := c.d.def_ 3 rfl
  have F3 : FnP K "_law_pick" "_law_pick" s_law_pick (ga K "_law_pick") fd3 := F3
  have b3 : Binds K fd3 ["source", "items"] [] := F3.bindsN fun _ _ _ _ _ _ us hl => match us, hl with | [_, _], _ => rfl
  obtain ⟨fd4, F4⟩ := c.d.def_ 4 rfl
  have F4 : FnP K "_law_maker" "_law_maker" s_law_maker (ga K "_law_maker") fd4 := F4
  have b4 : Binds K fd4 ["source", "back"] [] := F4.bindsN fun _ _ _ _ _ _ us hl => match us, hl with | [_, _], _ => rfl
  obtain ⟨fd5, F5⟩ := c.d.def_ 5 rfl
  have F5 : FnP K "_law_user" "_law_user" s_law_user (ga K "_law_user") fd5 := F5
  have b5 : Binds K fd5 ["source", "back"] [] := F5.bindsN fun _ _ _ _ _ _ us hl => match us, hl with | [_, _], _ => rfl
  obtain ⟨fd6, F6⟩ := c.d.def_ 6 rfl
  have F6 : FnP K "_law_arrow" "_law_arrow" s_law_arrow (ga K "_law_arrow") fd6 := F6
  have b6 : Binds K fd6 ["source", "start", "goal", "longest", "ends"] [] := F6.bindsN fun _ _ _ _ _ _ us hl => match us, hl with | [_, _, _, _, _], _ => rfl
  obtain ⟨fd7, F7⟩ := c.d.def_ 7 rfl
  have F7 : FnP K "_law_plan" "_law_plan" s_law_plan (ga K "_law_plan") fd7 := F7
  have b7 : Binds K fd7 ["source", "many", "longest", "back", "ends"] [] := F7.bindsN fun _ _ _ _ _ _ us hl => match us, hl with | [_, _, _, _, _], _ => rfl
  obtain ⟨fd8, F8⟩ := c.d.def_ 8 rfl
  have F8 : FnP K "is_whole" "is_whole" s_is_whole (ga K "is_whole") fd8 := F8
  have b8 : Binds K fd8 ["value"] [] := F8.bindsN fun _ _ _ _ _ _ us hl => match us, hl with | [_], _ => rfl
  obtain ⟨fd9, F9⟩ := c.d.def_ 9 rfl
  have F9 : FnP K "is_time" "is_time" s_is_time (ga K "is_time") fd9 := F9
  have b9 : Binds K fd9 ["value"] [] := F9.bindsN fun _ _ _ _ _ _ us hl => match us, hl with | [_], _ => rfl
  obtain ⟨fd10, F10⟩ := c.d.def_ 10 rfl
  have F10 : FnP K "is_list" "is_list" s_is_list (ga K "is_list") fd10 := F10
  have b10 : Binds K fd10 ["value"] [] := F10.bindsN fun _ _ _ _ _ _ us hl => match us, hl with | [_], _ => rfl
  obtain ⟨fd11, F11⟩ := c.d.def_ 11 rfl
  have F11 : FnP K "is_deed" "is_deed" s_is_deed (ga K "is_deed") fd11 := F11
  have b11 : Binds K fd11 ["value"] [] := F11.bindsN fun _ _ _ _ _ _ us hl => match us, hl with | [_], _ => rfl
  obtain ⟨fd12, F12⟩ := c.d.def_ 12 rfl
  have F12 : FnP K "makes" "makes" s_makes (ga K "makes") fd12 := F12
  have b12 : Binds K fd12 ["value"] [] := F12.bindsN fun _ _ _ _ _ _ us hl => match us, hl with | [_], _ => rfl
  obtain ⟨fd13, F13⟩ := c.d.def_ 13 rfl
  have F13 : FnP K "is_place" "is_place" s_is_place (ga K "is_place") fd13 := F13
  have b13 : Binds K fd13 ["value", "things"] [] := F13.bindsN fun _ _ _ _ _ _ us hl => match us, hl with | [_, _], _ => rfl
  obtain ⟨fd14, F14⟩ := c.d.def_ 14 rfl
  have F14 : FnP K "is_arrow" "is_arrow" s_is_arrow (ga K "is_arrow") fd14 := F14
  have b14 : Binds K fd14 ["value", "nodes"] [] := F14.bindsN fun _ _ _ _ _ _ us hl => match us, hl with | [_, _], _ => rfl
  obtain ⟨fd15, F15⟩ := c.d.def_ 15 rfl
  have F15 : FnP K "with_word" "with_word" s_with_word (ga K "with_word") fd15 := F15
  have b15 : Binds K fd15 ["arrow"] [] := F15.bindsN fun _ _ _ _ _ _ us hl => match us, hl with | [_], _ => rfl
  obtain ⟨fd16, F16⟩ := c.d.def_ 16 rfl
  have F16 : FnP K "check_nodes" "check_nodes" s_check_nodes (ga K "check_nodes") fd16 := F16
  have b16 : Binds K fd16 ["nodes"] [] := F16.bindsN fun _ _ _ _ _ _ us hl => match us, hl with | [_], _ => rfl
  obtain ⟨fd17, F17⟩ := c.d.def_ 17 rfl
  have F17 : FnP K "check_arrows" "check_arrows" s_check_arrows (ga K "check_arrows") fd17 := F17
  have b17 : Binds K fd17 ["arrows", "nodes"] [] := F17.bindsN fun _ _ _ _ _ _ us hl => match us, hl with | [_, _], _ => rfl
  obtain ⟨fd18, F18⟩ := c.d.def_ 18 rfl
  have F18 : FnP K "check_anew" "check_anew" s_check_anew (ga K "check_anew") fd18 := F18
  have b18 : Binds K fd18 ["links"] [] := F18.bindsN fun _ _ _ _ _ _ us hl => match us, hl with | [_], _ => rfl
  obtain ⟨fd19, F19⟩ := c.d.def_ 19 rfl
  have F19 : FnP K "check_reached" "check_reached" s_check_reached (ga K "check_reached") fd19 := F19
  have b19 : Binds K fd19 ["deeds", "links"] [] := F19.bindsN fun _ _ _ _ _ _ us hl => match us, hl with | [_, _], _ => rfl
  obtain ⟨fd20, F20⟩ := c.d.def_ 20 rfl
  have F20 : FnP K "is_moment" "is_moment" s_is_moment (ga K "is_moment") fd20 := F20
  have b20 : Binds K fd20 ["value"] [] := F20.bindsN fun _ _ _ _ _ _ us hl => match us, hl with | [_], _ => rfl
  obtain ⟨fd21, F21⟩ := c.d.def_ 21 rfl
  have F21 : FnP K "check_way" "check_way" s_check_way (ga K "check_way") fd21 := F21
  have b21 : Binds K fd21 ["value"] [] := F21.bindsN fun _ _ _ _ _ _ us hl => match us, hl with | [_], _ => rfl
  obtain ⟨fd22, F22⟩ := c.d.def_ 22 rfl
  have F22 : FnP K "is_row" "is_row" s_is_row (ga K "is_row") fd22 := F22
  have b22 : Binds K fd22 ["way", "value"] [] := F22.bindsN fun _ _ _ _ _ _ us hl => match us, hl with | [_, _], _ => rfl
  obtain ⟨fd23, F23⟩ := c.d.def_ 23 rfl
  have F23 : FnP K "is_step" "is_step" s_is_step (ga K "is_step") fd23 := F23
  have b23 : Binds K fd23 ["way", "value"] [] := F23.bindsN fun _ _ _ _ _ _ us hl => match us, hl with | [_, _], _ => rfl
  obtain ⟨fd24, F24⟩ := c.d.def_ 24 rfl
  have F24 : FnP K "follows" "follows" s_follows (ga K "follows") fd24 := F24
  have b24 : Binds K fd24 ["way", "one", "other"] [] := F24.bindsN fun _ _ _ _ _ _ us hl => match us, hl with | [_, _, _], _ => rfl
  obtain ⟨fd25, F25⟩ := c.d.def_ 25 rfl
  have F25 : FnP K "_law_row" "_law_row" s_law_row (ga K "_law_row") fd25 := F25
  have b25 : Binds K fd25 ["source", "plan", "most", "start", "longest"] [] := F25.bindsN fun _ _ _ _ _ _ us hl => match us, hl with | [_, _, _, _, _], _ => rfl
  obtain ⟨fd26, F26⟩ := c.d.def_ 26 rfl
  have F26 : FnP K "_law_right" "_law_right" s_law_right (ga K "_law_right") fd26 := F26
  have b26 : Binds K fd26 ["plan", "row"] [] := F26.bindsN fun _ _ _ _ _ _ us hl => match us, hl with | [_, _], _ => rfl
  obtain ⟨fd27, F27⟩ := c.d.def_ 27 rfl
  have F27 : FnP K "_law_bent" "_law_bent" s_law_bent (ga K "_law_bent") fd27 := F27
  have b27 : Binds K fd27 ["source", "plan", "row"] [] := F27.bindsN fun _ _ _ _ _ _ us hl => match us, hl with | [_, _, _], _ => rfl
  obtain ⟨fd28, F28⟩ := c.d.def_ 28 rfl
  have F28 : FnP K "__init__" "Way.__init__" s_Way___init__ (ma K (ga K "Way") "__init__") fd28 := F28
  have b28 : Binds K fd28 ["self", "nodes", "arrows"] [] := F28.bindsN fun _ _ _ _ _ _ us hl => match us, hl with | [_, _, _], _ => rfl
  obtain ⟨fd29, F29⟩ := c.d.def_ 29 rfl
  have F29 : FnP K "nodes" "Way.nodes" s_Way_nodes (ma K (ga K "Way") "nodes") fd29 := F29
  have b29 : Binds K fd29 ["self"] [] := F29.bindsN fun _ _ _ _ _ _ us hl => match us, hl with | [_], _ => rfl
  obtain ⟨fd30, F30⟩ := c.d.def_ 30 rfl
  have F30 : FnP K "arrows" "Way.arrows" s_Way_arrows (ma K (ga K "Way") "arrows") fd30 := F30
  have b30 : Binds K fd30 ["self"] [] := F30.bindsN fun _ _ _ _ _ _ us hl => match us, hl with | [_], _ => rfl
  obtain ⟨fd31, F31⟩ := c.d.def_ 31 rfl
  have F31 : FnP K "arrow" "Way.arrow" s_Way_arrow (ma K (ga K "Way") "arrow") fd31 := F31
  have b31 : Binds K fd31 ["self", "start", "goal"] [] := F31.bindsN fun _ _ _ _ _ _ us hl => match us, hl with | [_, _, _], _ => rfl
  obtain ⟨fd32, F32⟩ := c.d.def_ 32 rfl
  have F32 : FnP K "__getitem__" "Way.__getitem__" s_Way___getitem__ (ma K (ga K "Way") "__getitem__") fd32 := F32
  have b32 : Binds K fd32 ["self", "at"] [] := F32.bindsN fun _ _ _ _ _ _ us hl => match us, hl with | [_, _], _ => rfl
  obtain ⟨fd33, F33⟩ := c.d.def_ 33 rfl
  have F33 : FnP K "__len__" "Way.__len__" s_Way___len__ (ma K (ga K "Way") "__len__") fd33 := F33
  have b33 : Binds K fd33 ["self"] [] := F33.bindsN fun _ _ _ _ _ _ us hl => match us, hl with | [_], _ => rfl
  have e := hfa.symm.trans (glo_ok X G (c.d.fact 19 (b := (Fa.glo "law").ok K) rfl))
  cases e
  have bl := FunD.bindsA (ps := ["script"]) F0 fun _ _ _ _ _ _ us hl => match us, hl with | [_], _ => rfl
  refine ⟨fd0, fun s v => bl s [v] rfl, fun base _ _ => ?_⟩
  have D_law_source : Dn P w K mg base 2 (ga K "_law_source") ["script", "turn"] (spSource K) := ⟨⟨fd1, ok_source F1 tp.toTL, b1⟩, F1.kp⟩
  have D_law_draw : Dn P w K mg base 2 (ga K "_law_draw") ["source", "amount"] (spDraw) := ⟨⟨fd2, ok_draw F2 tp.toTL, b2⟩, F2.kp⟩
  have D_law_pick : Dn P w K mg base 4 (ga K "_law_pick") ["source", "items"] (spPick) := ⟨⟨fd3, ok_pick F3 tp D_law_draw, b3⟩, F3.kp⟩
  have D_is_whole : Dn P w K mg base 2 (ga K "is_whole") ["value"] (spWhole) := ⟨⟨fd8, ok_whole F8 tw, b8⟩, F8.kp⟩
  have D_is_time : Dn P w K mg base 4 (ga K "is_time") ["value"] (spTime) := ⟨⟨fd9, ok_time F9 tw D_is_whole, b9⟩, F9.kp⟩
  have D_is_list : Dn P w K mg base 2 (ga K "is_list") ["value"] (spList) := ⟨⟨fd10, ok_list F10 tw, b10⟩, F10.kp⟩
  have D_is_deed : Dn P w K mg base 6 (ga K "is_deed") ["value"] (spDeed) := ⟨⟨fd11, ok_deed F11 tw D_is_time, b11⟩, F11.kp⟩
  have D_makes : Dn P w K mg base 8 (ga K "makes") ["value"] (spMakes) := ⟨⟨fd12, ok_makes F12 tw D_is_deed, b12⟩, F12.kp⟩
  have D_is_place : Dn P w K mg base 4 (ga K "is_place") ["value", "things"] (spPlace) := ⟨⟨fd13, ok_place F13 tw D_is_whole, b13⟩, F13.kp⟩
  have D_with_word : Dn P w K mg base 2 (ga K "with_word") ["arrow"] (spWith) := ⟨⟨fd15, ok_with F15 tw, b15⟩, F15.kp⟩
  have D_is_arrow : Dn P w K mg base 10 (ga K "is_arrow") ["value", "nodes"] (spArrow) := ⟨⟨fd14, ok_arrow F14 tw D_is_place D_is_time D_with_word D_makes, b14⟩, F14.kp⟩
  have D_check_nodes : Dn P w K mg base 8 (ga K "check_nodes") ["nodes"] (spCkN) := ⟨⟨fd16, ok_ckN F16 tw D_is_list D_is_deed, b16⟩, F16.kp⟩
  have D_check_arrows : Dn P w K mg base 12 (ga K "check_arrows") ["arrows", "nodes"] (spCkA) := ⟨⟨fd17, ok_ckA F17 tw D_is_list D_is_arrow, b17⟩, F17.kp⟩
  have D_check_anew : Dn P w K mg base 2 (ga K "check_anew") ["links"] (spCkW) := ⟨⟨fd18, ok_ckW F18 tw, b18⟩, F18.kp⟩
  have D_check_reached : Dn P w K mg base 10 (ga K "check_reached") ["deeds", "links"] (spCkR) := ⟨⟨fd19, ok_ckR F19 tw D_makes, b19⟩, F19.kp⟩
  have M_Way : Mn P w K mg base 14 (ga K "Way") ["self", "nodes", "arrows"] (spWay (ga K "Way")) := ⟨⟨_, fd28, ok_way F28 tw D_check_nodes D_check_arrows D_with_word D_check_anew D_check_reached, b28, mkr_ok (c.d.fact 66 (b := (Fa.mkr "Way").ok K) rfl)⟩⟩
  have H_nodes : Hn P w K mg base 2 (ga K "Way") "nodes" (spNodes (ga K "Way")) := ⟨⟨_, fd29, ["self"], ok_nodes F29 tw, b29, meth_ok (c.d.fact 67 (b := (Fa.meth "Way" "nodes").ok K) rfl)⟩, tw.cl⟩
  have H_arrows : Hn P w K mg base 2 (ga K "Way") "arrows" (spArrows (ga K "Way")) := ⟨⟨_, fd30, ["self"], ok_arrows F30 tw, b30, meth_ok (c.d.fact 68 (b := (Fa.meth "Way" "arrows").ok K) rfl)⟩, tw.cl⟩
  have H_arrow : Hn P w K mg base 4 (ga K "Way") "arrow" (spGet (ga K "Way")) := ⟨⟨_, fd31, ["self", "start", "goal"], ok_get F31 tw D_is_whole, b31, meth_ok (c.d.fact 69 (b := (Fa.meth "Way" "arrow").ok K) rfl)⟩, tw.cl⟩
  have D_item : Dn P w K mg base 6 (ma K (ga K "Way") "__getitem__") ["self", "at"] (spItem (ga K "Way")) := ⟨⟨fd32, ok_item F32 tw D_is_place, b32⟩, F32.kp⟩
  have D_len : Dn P w K mg base 2 (ma K (ga K "Way") "__len__") ["self"] (spLen (ga K "Way")) := ⟨⟨fd33, ok_len F33 tw, b33⟩, F33.kp⟩
  have D_placeW : Dn P w K mg base 6 (ga K "is_place") ["value", "things"] (spPlaceW (ga K "Way")) := ⟨⟨fd13, ok_placeW F13 tr D_is_whole D_len, b13⟩, F13.kp⟩
  have D_is_moment : Dn P w K mg base 4 (ga K "is_moment") ["value"] (spMom) := ⟨⟨fd20, ok_momD F20 tr D_is_whole, b20⟩, F20.kp⟩
  have D_check_way : Dn P w K mg base 2 (ga K "check_way") ["value"] (spCWay (ga K "Way")) := ⟨⟨fd21, ok_cway F21 tr, b21⟩, F21.kp⟩
  have D_is_step : Dn P w K mg base 8 (ga K "is_step") ["way", "value"] (spStep (ga K "Way")) := ⟨⟨fd23, ok_step F23 tr D_placeW D_is_moment, b23⟩, F23.kp⟩
  have D_follows : Dn P w K mg base 6 (ga K "follows") ["way", "one", "other"] (spFol (ga K "Way")) := ⟨⟨fd24, ok_fol F24 tr H_arrow, b24⟩, F24.kp⟩
  have D_is_row : Dn P w K mg base 12 (ga K "is_row") ["way", "value"] (spIsRow (ga K "Way")) := ⟨⟨fd22, ok_isrow F22 tr D_check_way D_is_step D_makes D_item D_follows, b22⟩, F22.kp⟩
  have D_law_maker : Dn P w K mg base 6 (ga K "_law_maker") ["source", "back"] (spMaker) := ⟨⟨fd4, ok_maker F4 tl D_law_draw D_law_pick, b4⟩, F4.kp⟩
  have D_law_user : Dn P w K mg base 6 (ga K "_law_user") ["source", "back"] (spUser) := ⟨⟨fd5, ok_user F5 tl D_law_draw D_law_pick, b5⟩, F5.kp⟩
  have D_law_arrow : Dn P w K mg base 6 (ga K "_law_arrow") ["source", "start", "goal", "longest", "ends"] (spArw) := ⟨⟨fd6, ok_arw F6 tl D_law_draw D_law_pick, b6⟩, F6.kp⟩
  have D_law_plan : Dn P w K mg base 8 (ga K "_law_plan") ["source", "many", "longest", "back", "ends"] (spPlan) := ⟨⟨fd7, ok_plan F7 tl D_law_draw D_law_maker D_law_user D_law_arrow, b7⟩, F7.kp⟩
  have D_law_row : Dn P w K mg base 6 (ga K "_law_row") ["source", "plan", "most", "start", "longest"] (spRowL) := ⟨⟨fd25, ok_rowL F25 tl D_law_draw D_law_pick, b25⟩, F25.kp⟩
  have D_law_right : Dn P w K mg base 2 (ga K "_law_right") ["plan", "row"] (spRight) := ⟨⟨fd26, ok_right F26 tl, b26⟩, F26.kp⟩
  have D_law_bent : Dn P w K mg base 4 (ga K "_law_bent") ["source", "plan", "row"] (spBent) := ⟨⟨fd27, ok_bent F27 tb D_law_draw, b27⟩, F27.kp⟩
  exact ok_law F0 T D_law_draw D_law_source D_law_plan M_Way D_law_row D_is_row D_law_bent D_law_right
end

end KW
open PySem PySem.W PySem.Calls PyProof.Rows
set_option maxRecDepth 100000 in
set_option maxHeartbeats 0 in
theorem PySem.Challenge.cw_agedfiles_k14_rows_bent_holds : PySem.Challenge.rw_agedfiles_k14_rows_bent.Holds := by
  w_on; o_law
  refine HandSHeadRun.head_any (r := OpenLaw.row PySem.Challenge.rw_agedfiles_k14_rows_bent) (q := view (OpenLaw.row PySem.Challenge.rw_agedfiles_k14_rows_bent).prog [40]) (H := KW.hk) (ob := KW.ob) (M := 12000) (loose := KW.names) (d := HandSHeadRun.topDef (OpenLaw.row PySem.Challenge.rw_agedfiles_k14_rows_bent).prog 40) (kwd := []) KW.ob_eq
    (by kernel_rfl) (fun s => by kernel_rfl) KW.run (by kernel_rfl) (by kernel_rfl) (by kernel_rfl) (by rfl) (by first | assumption | decide +kernel) (by decide +kernel) ⟨rfl, rfl, rfl, rfl, rfl, by decide +kernel⟩ ?hw ?hc
  case hw => w_witness2
  case hc =>
    refine LamX.walk_ofTsE (l := PySem.Challenge.rw_agedfiles_k14_rows_bent) (n := 63) (k := 18) (x := "script") (CX := fun w => L2.CX (PySem.Challenge.rw_agedfiles_k14_rows_bent).prog w) rfl (by decide) (by kernel_rfl) ⟨rfl, by decide, by decide⟩ ?F (fun _ _ _ _ _ z => ?N)
    case N =>
      obtain ⟨_, _, _, _, _, _, _, _, _, _, _, _, h⟩ := z
      exact h
    case F =>
      intro w mg fa h Y G hmg0
      obtain ⟨K, KX, c⟩ := Y
      have hmg : mg ("law" : PySem.Str) = some (.ref fa) := by
        have e : (HandSHeadRun.topDef (OpenLaw.row PySem.Challenge.rw_agedfiles_k14_rows_bent).prog 40).name = ("law" : PySem.Str) := by kernel_rfl
        rw [← e]
        exact hmg0
      obtain ⟨fd, hb, hF⟩ := KW.all_ok (P := (PySem.Challenge.rw_agedfiles_k14_rows_bent).prog) (w := w) KX G hmg c
      exact ⟨K, KX, fd, [], KW.spLaw K, (fun _ h => nomatch h), (fun _ h => nomatch h), (fun _ h => nomatch h), hb, fun H a ns hl _ _ hS => ⟨a, ns, rfl, hS, hl, fun _ => rfl⟩, fun base h1 h2 _ => hF base h1 h2⟩
