import PyProof.Rows.All
import Wide.All
import OpenK.AllK
import Wide.FinOn
import KE.KStateDown
import Lean
import Open.SpecLaws
import KE.OsHead
import KE.OsGo
import HandS.ForSpec
import HandS.Defaults
import HandS.Head4
import HandS.HeadHook2
import HandS.Dict
import HandS.Comp
import HandS.Iter
import HandS.More
import HandS.SetFor
import HandS.Steps
import HandS.WordsDict
import HandS.Evl
import HandS.Zip
import HandS.SortKw
import HandS.ListItems
import HandS.Walk
import KE.DataMinMax
import PySem.Challenge.RW_cardclerks_s01_answers
import PyVbenai
set_option Elab.async false
set_option linter.all false
set_option maxRecDepth 100000
set_option maxHeartbeats 0
namespace Cc
open PySem PySem.Spec PyProof.Rows L2
def top (i : Nat) : Stmt := PySem.Challenge.pw_cardclerks_s01_answers.main.body.getD i (.Pass ⟨0, 0, 0, 0⟩)
def dG (x : Str) (i : Nat) : He.DefD := ⟨(x, none), x, x, defArgs (top i), defBody (top i), defScope (top i), [], []⟩
def dM (m q : Str) (i j : Nat) : He.DefD := ⟨("Room", some m), m, q, defArgs (inClass (top i) j), defBody (inClass (top i) j), defScope (inClass (top i) j), [], []⟩
def fnA : List He.DefD := [dG "counted" 1, dG "counted_rows" 2, dG "spot_in" 3, dG "is_room_size" 6, dG "is_card_number" 7, dG "is_key" 8, dG "is_place" 9, dG "is_hand_place" 10, dG "is_borrower" 11, dM "__init__" "Room.__init__" 12 0, dM "begin" "Room.begin" 12 1, dM "has_tray" "Room.has_tray" 12 2, dM "has_clerk" "Room.has_clerk" 12 3, dM "home_of" "Room.home_of" 12 4, dM "key_of" "Room.key_of" 12 5, dG "is_hand_full" 22, dG "is_journal_full" 23, dG "without" 24, dG "add_card" 25, dG "take_card" 26, dG "put_card" 27, dG "lend_card" 28, dG "get_back" 29, dG "lose_card" 30, dG "find_card" 31, dG "try_step" 32, dG "do_step" 33, dG "tell_log" 36, dG "undo_step" 37]
def fnB : List He.DefD := [dG "all_it_holds" 38, dG "can_be_done_to_the_same" 39, dG "try_exchange" 40, dG "answer_of_journal" 41, dG "is_right" 43, dG "tell_right" 44, dG "lengths_from" 45, dG "may_follow" 46, dG "staying_cards" 47, dG "tell_staying" 48, dG "all_staying" 49, dG "cards_to_move" 50, dG "tell_least" 51, dG "place_at_home" 52, dG "tell_plan" 53, dG "answer_of_order" 54, dG "where_is" 62, dG "show_tray" 63, dG "show_hand" 64, dG "ask_tray" 65, dG "tell_doubles" 66, dG "is_seen_list" 67, dG "take_inventory" 68, dG "tell_counts" 69, dG "tell_missing" 70, dG "answer_question" 71, dG "begin_room" 75, dG "answer_call" 76, dG "end_of_call" 77, dG "answers" 78]
def fn : List He.DefD := fnA ++ fnB
def gnamesA : List Str := ["counted", "counted_rows", "spot_in", "is_room_size", "is_card_number", "is_key", "is_place", "is_hand_place", "is_borrower", "Room", "is_hand_full", "is_journal_full", "without", "add_card", "take_card", "put_card", "lend_card", "get_back", "lose_card", "find_card", "try_step", "do_step", "tell_log", "undo_step", "all_it_holds", "can_be_done_to_the_same", "try_exchange"]
def gnamesB : List Str := ["answer_of_journal", "is_right", "tell_right", "lengths_from", "may_follow", "staying_cards", "tell_staying", "all_staying", "cards_to_move", "tell_least", "place_at_home", "tell_plan", "answer_of_order", "where_is", "show_tray", "show_hand", "ask_tray", "tell_doubles", "is_seen_list", "take_inventory", "tell_counts", "tell_missing", "answer_question", "begin_room", "answer_call", "end_of_call", "ARGUMENTS"]
def gnames : List Str := gnamesA ++ gnamesB
def gints : List (Str × Int) := [("OUT_OF_RANGE", -1), ("IN_TRAY", 0), ("IN_HAND", 1), ("LENT", 2), ("LOST", 3), ("NO_CARD", 4), ("DONE", 0), ("TOO_MANY_CARDS", -3), ("NOT_SO", -4), ("HAND_FULL", -5), ("JOURNAL_FULL", -6), ("MOST_CARDS", 40), ("MOST_IN_HAND", 3), ("MOST_STEPS", 120), ("NOTHING_TO_UNDO", -5), ("MOST_SEEN", 40), ("INVENTORY", 17)]
def fa : List He.Fa := [.cls "Room", .mkr "Room"] ++ (["cards", "trays", "hands", "lent", "lost", "journal"] : List Str).map (.noat "Room") ++ (["begin", "has_tray", "has_clerk", "home_of", "key_of"] : List Str).map (.meth "Room")
  ++ gnames.map .glo ++ [.glo "answers"] ++ gints.map (fun q => .int q.1 q.2) ++ (["len", "range", "enumerate", "list", "all", "sorted", "max", "zip", "sum", "set"] : List Str).map .free
def args : List He.Dv := [.int 2, .int 3, .int 3, .int 4, .int 3, .int 2, .int 1, .int 2, .int 1, .int 1, .int 1, .int 3, .int 0, .int 0, .int 0, .int 1, .int 0, .int 2, .int 0, .int 0, .int 1, .int 0, .int 0, .int 0]
def obsA (K : PySem.W.Frag) : He.AlD × Bool := (He.obsD fa fn K, He.tupB K "ARGUMENTS" args)
def SaysA (K : PySem.W.Frag) : Prop := He.SaysD fa fn K ∧ He.tupB K "ARGUMENTS" args = true
def hk : PySem.W.Hook where
  α := He.AlD × Bool
  obs := fun s => obsA (He.frG s.heap.get? (He.asD s.heap.get? 4))
  val := fun _ => (He.valD fn, true)
  says := fun _ h => ∃ K : PySem.W.Frag, K.In h ∧ SaysA K
  of := fun _ s e => ⟨He.frG s.heap.get? (He.asD s.heap.get? 4), He.frG_in, congrArg (fun z : He.AlD × Bool => z.1) e, congrArg (fun z : He.AlD × Bool => z.2) e⟩
  keeps := fun _ _ _ ⟨Kw, hK, c⟩ kp => ⟨Kw, PySem.W.Frag.In.keeps hK kp, c⟩
def ob (s : PySem.W.SharedT) : He.AlD × Bool := obsA (He.frG (HandSHeadRun.getT s) (He.asD (HandSHeadRun.getT s) 4))
theorem ob_eq (s : PySem.W.SharedT) : ob s = hk.obs s.abs := by
  have e : HandSHeadRun.getT s = s.abs.heap.get? := funext (HandSHeadRun.getT_eq s)
  unfold ob
  rw [e]
  rfl
def loose : List Str := gnames ++ gints.map (·.1)
theorem run (w : World) : HandSHeadRun.RunEqS PySem.Challenge.rw_cardclerks_s01_answers (PySem.W.view PySem.Challenge.rw_cardclerks_s01_answers.prog [78]) hk ob 12000 loose w := by
  intro os
  kernel_rfl
end Cc

set_option Elab.async false
set_option linter.all false
set_option maxRecDepth 100000
set_option maxHeartbeats 0
namespace Cc
open PySem PySem.Spec PyProof.Rows L2
open PySem.W (WData Codec OpenSpec)
/-- the end where the written part comes with the head's facts -/
theorem walkK {r : OpenSpec} {k : Nat} {q : Program} {lo : List Str} {XP : (Str → Option Value) → Heap → Prop} {YP : World → Heap → Prop} {d : DefRec} {ps : List Str}
    (well : r.wellSaid = true) (len : r.args.length = ps.length) (room : Room k callerA) (F : ∀ (w : World) (mg : Str → Option Value) (fa : Addr) (h : Heap), YP w h → h.Ns mainGlobals mg → mg d.name = some (.ref fa) →
      ∃ (K : PySem.W.Frag) (fd : FuncData) (sp : Sp), K.In h ∧ (∀ (s : Shared) (us : List Value), us.length = ps.length → BindsTo s fd ⟨us, []⟩ (ps.zip us)) ∧
        (∀ (H : Hp) (xs : List V) (a : Codec.denoteAll r.args), OnlyF H → Codec.withinAll r.args a = true → Codec.app r.args r.asked a = true → DwAll K H xs (Codec.encAll r.args a) →
          sp xs H (fun v H' => Dw K H' v (r.ret.enc (Codec.app r.args r.f a))) fun _ _ _ => False) ∧
        ∀ base : Heap, K.In base → base.Ns mainGlobals mg → FnOk r.prog w K mg base CX0 k fa fd ps sp) :
    PySem.W.WalkOS q lo XP YP r d [] (fun f vs => PySem.call f vs) := by
  intro w s0 s1 mg mb G Y fa o pm cd doc dV kV ho hd hcd hD hmg hg args vals as pre lay hrd wl hlo
  obtain ⟨z, ez, az⟩ := PySem.W.os_pre_some pre
  obtain ⟨ea, wi⟩ := Codec.encAll_of_decAll r.args args z ez
  subst ea
  obtain ⟨Kw, fd, sp, KX, hb, hsp, hF⟩ := F w mg fa _ Y G.T.g hmg
  refine PySem.W.enter_call (codeAny_mono (spec_call (R := []) (cl := classAt s0.heap) (d0 := r.ret.enc (Codec.app r.args r.f z)) KX G.T.g G.T.b G.T.builtins G.T.nolimit hg wl (pl_encAll _ _) (layable_weight lay) room hF hb (by rw [encAll_len]; exact len)
    (fun H xs hO hS => hsp H xs z hO wi az hS) fun H e s' hx => hx) fun res s' hq => ?_)
  obtain ⟨u, vs', rfl, h1, h2, h3, h4⟩ := hq
  exact ⟨.inl ⟨u, _, vs', rfl, fun _ => rfl, h1, (OpenSpec.post_iff well wi _ _).mpr rfl, fun y => Bool.noConfusion (show false = true from y)⟩, h2, h3, h4⟩
/-- answers' promise: the list that is handed in, and the list that is due -/
def spAns (K : PySem.W.Frag) : Sp := fun vs H Q _ => ∃ (a : Addr) (l : List Int), vs = [.ref a] ∧ SqL K H a (l.map V.int) ∧ OnlyF H ∧ l.length ≤ 16000 ∧ PyVbenai.answers_asked l = true ∧
  ∀ (H' : Hp) (p : Addr), H' p = some (.lst ((PyVbenai.answers l).map V.int)) → Q (.ref p) H'
theorem said : PySem.Challenge.rw_cardclerks_s01_answers.wellSaid = true := by decide +kernel
theorem holds_of (k : Nat) (hk2 : Room k callerA) (F : ∀ (w : World) (mg : Str → Option Value) (h : Heap) (K : PySem.W.Frag), K.In h → SaysA K → h.Ns mainGlobals mg →
      ∃ (fd : FuncData), (∀ (s : Shared) (us : List Value), us.length = (["calls"] : List Str).length → BindsTo s fd ⟨us, []⟩ ((["calls"] : List Str).zip us)) ∧
        ∀ base : Heap, K.In base → base.Ns mainGlobals mg → FnOk PySem.Challenge.rw_cardclerks_s01_answers.prog w K mg base CX0 k (He.ga K "answers") fd ["calls"] (spAns K)) :
    PySem.Challenge.rw_cardclerks_s01_answers.Holds := by
  refine HandSHeadRun.head_spec (r := PySem.Challenge.rw_cardclerks_s01_answers) (q := PySem.W.view PySem.Challenge.rw_cardclerks_s01_answers.prog [78]) (H := hk) (ob := ob) (M := 12000) (loose := loose)
    (d := HandSHeadRun.topDef PySem.Challenge.rw_cardclerks_s01_answers.prog 78) (kwd := []) ob_eq
    (by kernel_rfl) (fun s => by kernel_rfl) run (by kernel_rfl) (by kernel_rfl) (by kernel_rfl) PySem.W.os_shapes said (by decide +kernel) ⟨rfl, rfl, rfl, rfl, rfl, by decide +kernel⟩ ?hw ?hc
  case hw => exact ⟨[.list [.int 13]], by decide +kernel, by decide +kernel⟩
  case hc =>
    refine walkK (k := k) (ps := ["calls"]) said rfl hk2 ?F
    intro w mg fa h Y G hmg0
    obtain ⟨K, KX, c⟩ := Y
    have hmg : mg ("answers" : PySem.Str) = some (.ref fa) := by
      have e : (HandSHeadRun.topDef PySem.Challenge.rw_cardclerks_s01_answers.prog 78).name = ("answers" : PySem.Str) := by kernel_rfl
      rw [← e]
      exact hmg0
    have hg : mg ("answers" : PySem.Str) = some (.ref (He.ga K "answers")) := He.glo_ok KX G (c.1.fact 67 (f := .glo "answers") rfl)
    have efa : He.ga K "answers" = fa := by
      rw [hmg] at hg
      injection hg with hg
      injection hg with hg
      exact hg.symm
    obtain ⟨fd, hb, hF⟩ := F w mg h K KX c G
    rw [efa] at hF
    refine ⟨K, fd, spAns K, KX, hb, ?_, hF⟩
    intro H xs a hO hwi hask hx
    cases hx with
    | cons h1 h2 =>
      cases h2
      cases h1 with
      | lst hs ha =>
        have e := L2.ints_dw a.1 _ ha
        subst e
        have q : ((Codec.inLen 0 16000 a.1 && a.1.all (Codec.inInt (-9223372036854775808) 9223372036854775807)) && true) = true := hwi
        rw [Bool.and_eq_true, Bool.and_eq_true] at q
        exact ⟨_, a.1, rfl, hs, hO, (Codec.inNat_iff.mp q.1.1).2, hask, fun H' p hp => .lst (L2.SqL.of hp) (L2.dw_ints _)⟩
end Cc

namespace Cc
open Vbenai

/-! ### the calls of a list -/
theorem whole_id (c : List (List Int)) : PyVbenai.whole c = c := by
  unfold PyVbenai.whole
  split <;> rfl
theorem map_whole (cs : List (List (List Int))) : cs.map PyVbenai.whole = cs := by
  have e : PyVbenai.whole = id := funext whole_id
  rw [e, List.map_id]
theorem parse_step {sh : Int → Option (Nat × Nat)} {f : Nat} {p : Int} {r : List Int} {cs : List (List (List Int))} (h : PyFlat.calls sh f (p :: r) = some cs) :
    ∃ n k xs t rest f', sh p = some (n, k) ∧ n ≤ r.length ∧ PyFlat.rows k (r.drop n) = some (xs, t) ∧ cs = ((p :: r.take n) :: xs) :: rest ∧ PyFlat.calls sh f' t = some rest := by
  cases f with
  | zero => simp [PyFlat.calls] at h
  | succ f =>
    simp only [PyFlat.calls, PyFlat.call] at h
    cases e : sh p with
    | none => rw [e] at h; simp at h
    | some nk =>
      obtain ⟨n, k⟩ := nk
      rw [e] at h
      simp only at h
      by_cases hl : r.length < n
      · rw [if_pos hl] at h; simp at h
      · rw [if_neg hl] at h
        cases e2 : PyFlat.rows k (r.drop n) with
        | none => rw [e2] at h; simp at h
        | some xt =>
          obtain ⟨xs, t⟩ := xt
          rw [e2] at h
          simp only at h
          cases e3 : PyFlat.calls sh f t with
          | none => rw [e3] at h; simp at h
          | some rest =>
            rw [e3] at h
            simp only [Option.some.injEq] at h
            exact ⟨n, k, xs, t, rest, f, rfl, by omega, e2, h.symm, e3⟩
theorem calls_nil {sh : Int → Option (Nat × Nat)} {f : Nat} {cs : List (List (List Int))} (h : PyFlat.calls sh f [] = some cs) : cs = [] := by
  cases f <;> simp [PyFlat.calls] at h <;> exact h
theorem rows_zero {r : List Int} {xs : List (List Int)} {t : List Int} (h : PyFlat.rows 0 r = some (xs, t)) : xs = [] ∧ t = r := by
  simp [PyFlat.rows] at h
  exact ⟨h.1, h.2.symm⟩
theorem rows_one {r : List Int} {xs : List (List Int)} {t : List Int} (h : PyFlat.rows 1 r = some (xs, t)) : ∃ m r', r = m :: r' ∧ 0 ≤ m ∧ m.toNat ≤ r'.length ∧ xs = [r'.take m.toNat] ∧ t = r'.drop m.toNat := by
  cases r with
  | nil => simp [PyFlat.rows, PyFlat.row] at h
  | cons m r' =>
    simp only [PyFlat.rows, PyFlat.row] at h
    by_cases c : 0 ≤ m ∧ m.toNat ≤ r'.length
    · rw [if_pos c] at h
      simp at h
      exact ⟨m, r', rfl, c.1, c.2, h.1.symm, h.2.symm⟩
    · rw [if_neg c] at h
      simp at h
theorem shape_some {p : Int} {n k : Nat} (h : PyVbenai.shape p = some (n, k)) : 0 ≤ p ∧ p ≤ 23 ∧ (k = if p = 17 then 1 else 0) ∧ ([2, 3, 3, 4, 3, 2, 1, 2, 1, 1, 1, 3, 0, 0, 0, 1, 0, 1, 0, 0, 1, 0, 0, 0] : List Nat)[p.toNat]? = some n := by
  have c : (p < 0 ∨ 23 < p) ∨ p = 0 ∨ p = 1 ∨ p = 2 ∨ p = 3 ∨ p = 4 ∨ p = 5 ∨ p = 6 ∨ p = 7 ∨ p = 8 ∨ p = 9 ∨ p = 10 ∨ p = 11 ∨ p = 12 ∨ p = 13 ∨ p = 14 ∨ p = 15 ∨ p = 16 ∨ p = 17 ∨ p = 18 ∨ p = 19 ∨ p = 20 ∨ p = 21 ∨ p = 22 ∨ p = 23 := by omega
  rcases c with c | rfl | rfl | rfl | rfl | rfl | rfl | rfl | rfl | rfl | rfl | rfl | rfl | rfl | rfl | rfl | rfl | rfl | rfl | rfl | rfl | rfl | rfl | rfl | rfl
  · exfalso
    unfold PyVbenai.shape at h
    rw [if_neg (show ¬ p = 0 by omega), if_neg (show ¬ p = 1 by omega), if_neg (show ¬ p = 2 by omega), if_neg (show ¬ p = 3 by omega), if_neg (show ¬ p = 4 by omega), if_neg (show ¬ p = 5 by omega), if_neg (show ¬ p = 6 by omega), if_neg (show ¬ p = 7 by omega), if_neg (show ¬ p = 8 by omega), if_neg (show ¬ p = 9 by omega), if_neg (show ¬ p = 10 by omega), if_neg (show ¬ p = 11 by omega), if_neg (show ¬ p = 12 by omega), if_neg (show ¬ p = 13 by omega), if_neg (show ¬ p = 14 by omega), if_neg (show ¬ p = 15 by omega), if_neg (show ¬ p = 16 by omega), if_neg (show ¬ p = 17 by omega), if_neg (show ¬ p = 18 by omega), if_neg (show ¬ p = 19 by omega), if_neg (show ¬ p = 20 by omega), if_neg (show ¬ p = 21 by omega), if_neg (show ¬ p = 22 by omega), if_neg (show ¬ p = 23 by omega)] at h
    cases h
  all_goals
    have h2 := Option.some.inj h
    simp at h2
    obtain ⟨rfl, rfl⟩ := h2
    decide
/-- what is due of a list that may be handed in -/
theorem due {l : List Int} (h : PyVbenai.answers_asked l = true) : ∃ raw f, PyFlat.calls PyVbenai.shape f l = some raw ∧ raw.length ≤ 400 ∧ raw ≠ [] ∧ VbenaiNeutral.asked raw = true ∧
    PyVbenai.answers l = PyFlat.told (PyFlat.played Vbenai.step Vbenai.start raw) ∧ (PyVbenai.answers l).length ≤ 10000000 := by
  unfold PyVbenai.answers_asked at h
  cases e : PyFlat.calls PyVbenai.shape l.length l with
  | none => rw [e] at h; cases h
  | some raw =>
    rw [e] at h
    simp only [Bool.and_eq_true, map_whole] at h
    obtain ⟨⟨⟨⟨h1, h2⟩, _⟩, h4⟩, h5⟩ := h
    refine ⟨raw, l.length, e, ?_, ?_, h4, ?_, ?_⟩
    · simpa [PyFlat.atMost] using h2
    · intro z; subst z; simp at h1
    · unfold PyVbenai.answers PyVbenai.calls
      rw [e]
      simp only [map_whole]
      rfl
    · simpa [PyFlat.short] using h5

/-! ### counts -/
theorem count_set : ∀ (L : List (List Nat)) (t : Nat) (x : List Nat) (a : Nat), t < L.length → (L.set t x).flatten.count a + (L.getD t []).count a = L.flatten.count a + x.count a
  | [], t, x, a, h => by simp at h
  | l :: L, 0, x, a, _ => by simp [List.count_append]; omega
  | l :: L, t + 1, x, a, h => by
    have ih := count_set L t x a (by simpa using h)
    simp only [List.set_cons_succ, List.flatten_cons, List.count_append, List.getD_cons_succ] at ih ⊢
    omega
theorem count_eraseIdx : ∀ (l : List Nat) (p n a : Nat), l[p]? = some n → (l.eraseIdx p).count a + (if n = a then 1 else 0) = l.count a
  | [], p, n, a, h => by simp at h
  | x :: l, 0, n, a, h => by
    simp at h; subst h
    simp [List.count_cons]
  | x :: l, p + 1, n, a, h => by
    have ih := count_eraseIdx l p n a (by simpa using h)
    simp only [List.eraseIdx_cons_succ, List.count_cons]
    omega
theorem count_one (n a : Nat) : ([n] : List Nat).count a = if n = a then 1 else 0 := by
  simp [List.count_cons]
theorem count_putAt (l : List Nat) (p n a : Nat) : (putAt l p n).count a = l.count a + if n = a then 1 else 0 := by
  unfold putAt
  have e : l.count a = (l.take p).count a + (l.drop p).count a := by rw [← List.count_append, List.take_append_drop]
  rw [List.count_append, List.count_cons, e]
  simp
  omega
theorem count_filter_ne (l : List Nat) (n a : Nat) : (l.filter fun x => x != n).count a = if n = a then 0 else l.count a := by
  induction l with
  | nil => simp
  | cons x l ih =>
    by_cases hx : x = n
    · subst hx
      simp only [List.filter_cons, bne_self_eq_false, Bool.false_eq_true, if_false, ih, List.count_cons]
      by_cases ha : x = a <;> simp [ha]
    · have e : (x != n) = true := by simpa using hx
      simp only [List.filter_cons, e, if_true, List.count_cons, ih]
      by_cases ha : n = a
      · subst ha; simp [hx]
      · simp [ha]
theorem flatten_filter (L : List (List Nat)) (n : Nat) : (L.map fun l => l.filter fun x => x != n).flatten = L.flatten.filter fun x => x != n := by
  induction L with
  | nil => rfl
  | cons l L ih => simp only [List.map_cons, List.flatten_cons, List.filter_append, ih]
theorem map_filter_fst (L : List (Nat × Nat)) (n : Nat) : (L.filter fun x => x.1 != n).map (·.1) = (L.map (·.1)).filter fun x => x != n := by
  induction L with
  | nil => rfl
  | cons l L ih =>
    by_cases h : l.1 = n
    · have e : (l.1 != n) = false := by simpa using h
      simp only [List.filter_cons, e, List.map_cons, Bool.false_eq_true, if_false]
      exact ih
    · have e : (l.1 != n) = true := by simpa using h
      simp only [List.filter_cons, e, List.map_cons, if_true]
      rw [ih]
theorem mem_of_count {l : List Nat} {a : Nat} (h : 0 < l.count a) : a ∈ l := List.count_pos_iff.mp h
theorem count_of_mem {l : List Nat} {a : Nat} (h : a ∈ l) : 0 < l.count a := List.count_pos_iff.mpr h
theorem count_le_flatten : ∀ {L : List (List Nat)} {l : List Nat} (a : Nat), l ∈ L → l.count a ≤ L.flatten.count a
  | x :: L, l, a, h => by
    rw [List.flatten_cons, List.count_append]
    rcases List.mem_cons.mp h with e | m
    · subst e; omega
    · have := count_le_flatten a m; omega

/-! ### a room as it can be -/
structure RInv (r : Room) : Prop where
  tr : 1 ≤ r.trays.length ∧ r.trays.length ≤ 4
  hd : 1 ≤ r.hands.length ∧ r.hands.length ≤ 3
  nd : (r.cards.map (·.number)).Nodup
  le : r.cards.length ≤ 40
  ok : ∀ x ∈ r.cards, x.number ≤ 999 ∧ x.home < r.trays.length ∧ -1000 ≤ x.key ∧ x.key ≤ 1000
  cnt : ∀ a, r.trays.flatten.count a + r.hands.flatten.count a + (r.lent.map (·.1)).count a + r.lost.count a = (r.cards.map (·.number)).count a
  hl : ∀ l ∈ r.hands, l.length ≤ 3
  wh : ∀ x ∈ r.lent, x.2 ≤ 9
def EvOk (T C : Nat) : Event → Prop
  | .card n t k => n ≤ 999 ∧ t < T ∧ -1000 ≤ k ∧ k ≤ 1000
  | .take c t p => c < C ∧ t < T ∧ p ≤ 40
  | .put c h t p => c < C ∧ h ≤ 2 ∧ t < T ∧ p ≤ 40
  | .lend c h w => c < C ∧ h ≤ 2 ∧ w ≤ 9
  | .back c n => c < C ∧ n ≤ 999
  | .lose n => n ≤ 999
  | .find n t => n ≤ 999 ∧ t < T
theorem fresh_inv {t c : Nat} (ht : 1 ≤ t ∧ t ≤ 4) (hc : 1 ≤ c ∧ c ≤ 3) : RInv (fresh t c) := by
  refine ⟨by simpa [fresh] using ht, by simpa [fresh] using hc, by simp [fresh], by simp [fresh], by simp [fresh], fun a => ?_, ?_, by simp [fresh]⟩
  · have e : ∀ k, (List.replicate k ([] : List Nat)).flatten = [] := fun k => by
      induction k with
      | zero => rfl
      | succ k ih => simp [List.replicate_succ, ih]
    simp [fresh, e]
  · intro l hl
    simp [fresh] at hl
    simp [hl.2]
theorem cardOf_none {r : Room} {n : Nat} : cardOf r n = none ↔ n ∉ r.cards.map (·.number) := by
  unfold cardOf
  rw [List.find?_eq_none]
  simp
theorem cardOf_isSome {r : Room} {n : Nat} : (cardOf r n).isSome = true ↔ n ∈ r.cards.map (·.number) := by
  cases e : cardOf r n with
  | none => simp [cardOf_none.mp e]
  | some x =>
    simp only [Option.isSome_some, true_iff]
    exact Classical.byContradiction fun h => by rw [cardOf_none.mpr h] at e; cases e
theorem hands_set {L : List (List Nat)} {c : Nat} {x : List Nat} (h : ∀ l ∈ L, l.length ≤ 3) (hx : x.length ≤ 3) : ∀ l ∈ L.set c x, l.length ≤ 3 := fun l hl => by
  rcases List.mem_or_eq_of_mem_set hl with m | e
  · exact h l m
  · rw [e]; exact hx
theorem getD_len {L : List (List Nat)} {c : Nat} (h : ∀ l ∈ L, l.length ≤ 3) : (L.getD c []).length ≤ 3 := by
  rw [List.getD_eq_getElem?_getD]
  cases e : L[c]? with
  | none => simp
  | some l => exact h l (List.mem_of_getElem? e)
theorem erase_len {l : List Nat} {p : Nat} (h : l.length ≤ 3) : (l.eraseIdx p).length ≤ 3 := Nat.le_trans (List.length_eraseIdx_le ..) h
theorem stepped_inv {r r' : Room} {e : Event} (R : RInv r) (E : EvOk r.trays.length r.hands.length e) (h : stepped r e = .ok r') :
    RInv r' ∧ r'.trays.length = r.trays.length ∧ r'.hands.length = r.hands.length := by
  cases e with
  | card n t k =>
    obtain ⟨e1, e2, e3, e4⟩ := E
    simp only [stepped] at h
    split at h
    · cases h
    · rename_i hs
      split at h
      · cases h
      · rename_i hc
        have hn : n ∉ r.cards.map (·.number) := fun z => hs (cardOf_isSome.mpr z)
        cases h
        refine ⟨⟨by simpa using R.tr, R.hd, ?_, ?_, ?_, fun a => ?_, R.hl, R.wh⟩, by simp, rfl⟩
        · simp only [List.map_append, List.map_cons, List.map_nil]
          rw [List.nodup_append]
          refine ⟨R.nd, by simp, fun a ha b hb => ?_⟩
          simp at hb
          subst hb
          intro z; subst z
          exact hn ha
        · simp [CARDS] at hc ⊢; omega
        · intro x hx
          simp only [List.mem_append, List.mem_cons, List.not_mem_nil, or_false, List.length_set] at hx ⊢
          rcases hx with m | rfl
          · exact R.ok x m
          · exact ⟨e1, e2, e3, e4⟩
        · have c1 := count_set r.trays t (trayAt r t ++ [n]) a e2
          have c2 := R.cnt a
          simp only [List.map_append, List.map_cons, List.map_nil, List.count_append, count_one] at c1 ⊢
          unfold trayAt at c1 ⊢
          omega
  | take c t p =>
    obtain ⟨e1, e2, e3⟩ := E
    simp only [stepped] at h
    split at h
    · cases h
    · rename_i n hn
      split at h
      · cases h
      · rename_i hc
        cases h
        refine ⟨⟨by simpa using R.tr, by simpa using R.hd, R.nd, R.le, by simpa using R.ok, fun a => ?_, ?_, R.wh⟩, by simp, by simp⟩
        · have c1 := count_set r.trays t ((trayAt r t).eraseIdx p) a e2
          have c2 := count_set r.hands c (handAt r c ++ [n]) a e1
          have c3 := R.cnt a
          have c4 := count_eraseIdx _ _ _ a hn
          simp only [List.count_append, count_one] at c1 c2 ⊢
          unfold trayAt handAt at *
          omega
        · refine hands_set R.hl ?_
          simp [HAND] at hc ⊢; omega
  | put c h' t p =>
    obtain ⟨e1, e2, e3, e4⟩ := E
    simp only [stepped] at h
    split at h
    · cases h
    · rename_i n hn
      split at h
      · cases h
      · cases h
        refine ⟨⟨by simpa using R.tr, by simpa using R.hd, R.nd, R.le, by simpa using R.ok, fun a => ?_, ?_, R.wh⟩, by simp, by simp⟩
        · have c1 := count_set r.trays t (putAt (trayAt r t) p n) a e3
          have c2 := count_set r.hands c ((handAt r c).eraseIdx h') a e1
          have c3 := R.cnt a
          have c4 := count_eraseIdx _ _ _ a hn
          rw [count_putAt] at c1
          unfold trayAt handAt at *
          simp only
          omega
        · exact hands_set R.hl (erase_len (getD_len R.hl))
  | lend c h' w =>
    obtain ⟨e1, e2, e3⟩ := E
    simp only [stepped] at h
    split at h
    · cases h
    · rename_i n hn
      cases h
      refine ⟨⟨R.tr, by simpa using R.hd, R.nd, R.le, R.ok, fun a => ?_, ?_, ?_⟩, rfl, by simp⟩
      · have c2 := count_set r.hands c ((handAt r c).eraseIdx h') a e1
        have c3 := R.cnt a
        have c4 := count_eraseIdx _ _ _ a hn
        simp only [List.map_append, List.map_cons, List.map_nil, List.count_append, count_one]
        unfold handAt at *
        omega
      · exact hands_set R.hl (erase_len (getD_len R.hl))
      · intro x hx
        simp only [List.mem_append, List.mem_cons, List.not_mem_nil, or_false] at hx
        rcases hx with m | rfl
        · exact R.wh x m
        · exact e3
  | back c n =>
    obtain ⟨e1, e2⟩ := E
    simp only [stepped] at h
    split at h
    · cases h
    · rename_i hl
      split at h
      · cases h
      · rename_i hc
        cases h
        refine ⟨⟨R.tr, by simpa using R.hd, R.nd, R.le, R.ok, fun a => ?_, ?_, ?_⟩, rfl, by simp⟩
        · have c2 := count_set r.hands c (handAt r c ++ [n]) a e1
          have c3 := R.cnt a
          have c5 : n ∈ r.lent.map (·.1) := by
            simp only [Bool.not_eq_false, List.any_eq_true, beq_iff_eq] at hl
            obtain ⟨x, hx, rfl⟩ := hl
            exact List.mem_map.mpr ⟨x, hx, rfl⟩
          have c6 := List.nodup_iff_count.mp R.nd a
          simp only [List.count_append, count_one, map_filter_fst, count_filter_ne] at c2 ⊢
          unfold handAt at *
          by_cases ha : n = a
          · subst ha
            have c7 := count_of_mem c5
            simp only [if_true] at *
            omega
          · simp only [if_neg ha] at *
            omega
        · refine hands_set R.hl ?_
          simp [HAND] at hc ⊢; omega
        · intro x hx
          exact R.wh x (List.mem_filter.mp hx).1
  | lose n =>
    simp only [stepped] at h
    split at h
    · cases h
    · rename_i hl
      cases h
      have h1 : n ∈ r.cards.map (·.number) := Classical.byContradiction fun z => hl (.inl (by rw [cardOf_none.mpr z]; rfl))
      have h2 : n ∉ r.lost := fun z => hl (.inr (by simpa using z))
      refine ⟨⟨by simpa using R.tr, by simpa using R.hd, R.nd, R.le, by simpa using R.ok, fun a => ?_, ?_, ?_⟩, by simp, by simp⟩
      · have c3 := R.cnt a
        have c6 := List.nodup_iff_count.mp R.nd a
        simp only [flatten_filter, map_filter_fst, count_filter_ne, List.count_append, count_one]
        by_cases ha : n = a
        · subst ha
          have c7 := count_of_mem h1
          have c8 : r.lost.count n = 0 := List.count_eq_zero.mpr h2
          simp only [if_true]
          omega
        · simp only [if_neg ha]
          omega
      · intro l hl
        obtain ⟨l0, h0, rfl⟩ := List.mem_map.mp hl
        exact Nat.le_trans (List.length_filter_le ..) (R.hl l0 h0)
      · intro x hx
        exact R.wh x (List.mem_filter.mp hx).1
  | find n t =>
    obtain ⟨e1, e2⟩ := E
    simp only [stepped] at h
    split at h
    · cases h
    · rename_i hl
      cases h
      have h2 : n ∈ r.lost := by simpa using hl
      refine ⟨⟨by simpa using R.tr, R.hd, R.nd, R.le, by simpa using R.ok, fun a => ?_, R.hl, R.wh⟩, by simp, rfl⟩
      · have c1 := count_set r.trays t (trayAt r t ++ [n]) a e2
        have c3 := R.cnt a
        have c6 := List.nodup_iff_count.mp R.nd a
        simp only [count_filter_ne, List.count_append, count_one] at c1 ⊢
        unfold trayAt at *
        by_cases ha : n = a
        · subst ha
          have c7 := count_of_mem h2
          simp only [if_true] at *
          omega
        · simp only [if_neg ha] at *
          omega

/-! ### a state as it can be -/
structure SInv (s : State) : Prop where
  rm : RInv s.room
  bs : s.base = fresh s.room.trays.length s.room.hands.length
  pl : played s.base s.log = some s.room
  ev : ∀ e ∈ s.log, EvOk s.room.trays.length s.room.hands.length e
  ll : s.log.length ≤ 120
theorem start_inv : SInv start := ⟨fresh_inv (by decide) (by decide), rfl, rfl, by simp [start], by simp [start]⟩
theorem played_snoc : ∀ (l : List Event) (r : Room) (e : Event), played r (l ++ [e]) = (played r l).bind fun u => match stepped u e with | .error _ => none | .ok v => some v
  | [], r, e => by
    simp only [List.nil_append, played, Option.bind]
    cases stepped r e <;> rfl
  | x :: l, r, e => by
    simp only [List.cons_append, played]
    cases stepped r x with
    | error n => rfl
    | ok u => exact played_snoc l u e
theorem played_inv : ∀ (l : List Event) {r r' : Room}, RInv r → (∀ e ∈ l, EvOk r.trays.length r.hands.length e) → played r l = some r' → RInv r' ∧ r'.trays.length = r.trays.length ∧ r'.hands.length = r.hands.length
  | [], r, r', R, _, h => by
    simp only [played, Option.some.injEq] at h
    subst h
    exact ⟨R, rfl, rfl⟩
  | x :: l, r, r', R, E, h => by
    simp only [played] at h
    cases e : stepped r x with
    | error n => rw [e] at h; cases h
    | ok u =>
      rw [e] at h
      obtain ⟨a, b, c⟩ := stepped_inv R (E x (by simp)) e
      obtain ⟨a', b', c'⟩ := played_inv l a (fun y hy => by rw [b, c]; exact E y (by simp [hy])) h
      exact ⟨a', b'.trans b, c'.trans c⟩
theorem played_take {r r' : Room} {l : List Event} (h : played r l = some r') (hne : l ≠ []) : ∃ u, played r l.dropLast = some u := by
  have e := List.dropLast_concat_getLast hne
  rw [← e, played_snoc] at h
  cases q : played r l.dropLast with
  | none => rw [q] at h; cases h
  | some u => exact ⟨u, rfl⟩
theorem between {n lo hi : Int} (h : VbenCore.isBetween n lo hi = true) : lo ≤ n ∧ n ≤ hi := by
  simpa [VbenCore.isBetween] using h
theorem event_inv {s : State} {e : Event} (S : SInv s) (E : EvOk s.room.trays.length s.room.hands.length e) : SInv (act s (.event e true)).1 := by
  simp only [act]
  cases q : stepped s.room e with
  | error n => exact S
  | ok r =>
    simp only
    split
    · exact S
    · rename_i hl
      obtain ⟨a, b, c⟩ := stepped_inv S.rm E q
      refine ⟨a, by simp only [b, c]; exact S.bs, ?_, ?_, ?_⟩
      · simp only
        rw [played_snoc, S.pl]
        simp [q]
      · intro x hx
        simp only [b, c, List.mem_append, List.mem_cons, List.not_mem_nil, or_false] at hx ⊢
        rcases hx with m | rfl
        · exact S.ev x m
        · exact E
      · simp [STEPS] at hl ⊢; omega
theorem undo_inv {s : State} (S : SInv s) : SInv (act s .undo).1 := by
  simp only [act]
  cases q : s.log.getLast? with
  | none => exact S
  | some e =>
    simp only
    have hne : s.log ≠ [] := by intro z; rw [z] at q; cases q
    obtain ⟨u, hu⟩ := played_take S.pl hne
    rw [hu]
    have hf := fresh_inv S.rm.tr S.rm.hd
    have bl : s.base.trays.length = s.room.trays.length ∧ s.base.hands.length = s.room.hands.length := by rw [S.bs]; simp [fresh]
    have ev : ∀ e ∈ s.log.dropLast, EvOk s.room.trays.length s.room.hands.length e := fun e he => S.ev e (List.dropLast_subset _ he)
    obtain ⟨a, b, c⟩ := played_inv s.log.dropLast (r := s.base) (by rw [S.bs]; exact hf) (by rw [bl.1, bl.2]; exact ev) hu
    rw [bl.1] at b
    rw [bl.2] at c
    exact ⟨a, by simp only [b, c]; exact S.bs, hu, by simp only [b, c]; exact ev, by simp; have := S.ll; omega⟩
/-- how many moves undo leaves: it is never refused but of an empty journal -/
theorem undo_ok {s : State} (S : SInv s) (h : s.log ≠ []) : ∃ u, played s.base s.log.dropLast = some u := played_take S.pl h
end Cc

namespace Cc
open Vbenai

/-! ### the longest row -/
theorem lens_len : ∀ l : List Int, (lengthsFrom l).length = l.length
  | [] => rfl
  | k :: l => by
    show (_ :: lengthsFrom l).length = (k :: l).length
    rw [List.length_cons, List.length_cons, lens_len l]
/-- what the inner loop makes of the lengths behind a key -/
def lenFold (k : Int) (l : List (Int × Nat)) : Nat := l.foldl (fun m x => if k ≤ x.1 then max m x.2 else m) 0
theorem lens_cons (k : Int) (l : List Int) : lengthsFrom (k :: l) = (1 + lenFold k (l.zip (lengthsFrom l))) :: lengthsFrom l := rfl
theorem lenFold_snoc (k : Int) (l : List (Int × Nat)) (x : Int × Nat) : lenFold k (l ++ [x]) = if k ≤ x.1 then max (lenFold k l) x.2 else lenFold k l := by
  unfold lenFold
  rw [List.foldl_append]
  rfl
theorem lens_drop : ∀ (ks : List Int) (i : Nat), lengthsFrom (ks.drop i) = (lengthsFrom ks).drop i
  | _, 0 => rfl
  | [], i + 1 => rfl
  | k :: l, i + 1 => by
    rw [lens_cons, List.drop_succ_cons, List.drop_succ_cons, lens_drop l i]
theorem lens_pos : ∀ (ks : List Int), ∀ n ∈ lengthsFrom ks, 1 ≤ n
  | [], n, h => by simp [lengthsFrom] at h
  | k :: l, n, h => by
    rw [lens_cons] at h
    rcases List.mem_cons.mp h with e | m
    · omega
    · exact lens_pos l n m
theorem lens_le : ∀ (ks : List Int), ∀ n ∈ lengthsFrom ks, n ≤ ks.length
  | [], n, h => by simp [lengthsFrom] at h
  | k :: l, n, h => by
    have ih := lens_le l
    rw [lens_cons] at h
    have key : ∀ (z : List (Int × Nat)), (∀ x ∈ z, x.2 ≤ l.length) → lenFold k z ≤ l.length := fun z => by
      unfold lenFold
      have : ∀ (z : List (Int × Nat)) (m : Nat), m ≤ l.length → (∀ x ∈ z, x.2 ≤ l.length) → z.foldl (fun m x => if k ≤ x.1 then max m x.2 else m) m ≤ l.length := fun z => by
        induction z with
        | nil => intro m hm _; exact hm
        | cons x z ihz =>
          intro m hm hz
          rw [List.foldl_cons]
          refine ihz _ ?_ fun y hy => hz y (List.mem_cons_of_mem _ hy)
          have := hz x List.mem_cons_self
          split <;> omega
      exact this z 0 (Nat.zero_le _)
    rcases List.mem_cons.mp h with e | m
    · have := key (l.zip (lengthsFrom l)) fun x hx => ih x.2 (List.of_mem_zip hx).2
      rw [e, List.length_cons]
      omega
    · rw [List.length_cons]
      have := ih n m
      omega
def fits : Option Int → Int → Bool
  | none, _ => true
  | some z, k => decide (z ≤ k)
theorem stay_unf (w : Nat) (low : Option Int) (x : Nat × Int × Nat) (l : List (Nat × Int × Nat)) : stayFrom w low (x :: l) = if x.2.2 = w ∧ w ≠ 0 ∧ fits low x.2.1 = true then x.1 :: stayFrom (w - 1) (some x.2.1) l else stayFrom w low l := by
  cases low <;> rfl
/-- places may be told by any other sign -/
theorem stay_map (f : Nat → Nat) : ∀ (l : List (Nat × Int × Nat)) (w : Nat) (low : Option Int), stayFrom w low (l.map fun x => (f x.1, x.2)) = (stayFrom w low l).map f
  | [], _, _ => rfl
  | x :: l, w, low => by
    rw [List.map_cons, stay_unf, stay_unf]
    split
    · rw [List.map_cons, stay_map f l]
    · exact stay_map f l w low
/-- the cards at home in a tray -/
def atHome (r : Room) (t : Nat) : List Nat := (trayAt r t).filter fun n => homeOf r n == t
def tagged (r : Room) (l : List Nat) (ns : List Nat) : List (Nat × Int × Nat) := (l.zip ns).map fun x => (x.1, keyOf r x.1, x.2)
theorem zipIdx_get {α : Type} {l : List α} {x : α × Nat} (h : x ∈ l.zipIdx) : l[x.2]? = some x.1 := by
  obtain ⟨a, i⟩ := x
  have := List.mem_zipIdx_iff_getElem?.mp h
  exact this
theorem zipIdx_filter_fst {α : Type} (p : α → Bool) (l : List α) : ((l.zipIdx.filter fun x => p x.1).map fun x => x.1) = l.filter p := by
  have h : ∀ (l : List α) (k : Nat), ((l.zipIdx k).filter fun x => p x.1).map (fun x => x.1) = l.filter p := fun l => by
    induction l with
    | nil => intro k; rfl
    | cons a l ih =>
      intro k
      rw [List.zipIdx_cons, List.filter_cons, List.filter_cons]
      by_cases q : p a = true
      · rw [if_pos q, if_pos q, List.map_cons, ih]
      · rw [if_neg q, if_neg q, ih]
  exact h l 0
theorem staying_eq (r : Room) (t : Nat) : staying r t = stayFrom ((lengthsFrom ((atHome r t).map (keyOf r))).foldl max 0) none (tagged r (atHome r t) (lengthsFrom ((atHome r t).map (keyOf r)))) := by
  unfold staying longest
  have e1 : ((((trayAt r t).zipIdx.filter fun x => homeOf r x.1 == t).map fun x => (x.2, keyOf r x.1)).map fun x => x.2) = (atHome r t).map (keyOf r) := by
    rw [List.map_map]
    unfold atHome
    rw [← zipIdx_filter_fst (fun n => homeOf r n == t) (trayAt r t), List.map_map]
    rfl
  simp only
  rw [e1, ← stay_map]
  refine congrArg _ ?_
  generalize lengthsFrom ((atHome r t).map (keyOf r)) = ns
  have key : ∀ (z : List (Nat × Nat)) (ns : List Nat), (∀ x ∈ z, (trayAt r t)[x.2]? = some x.1) →
      (((z.map fun x => (x.2, keyOf r x.1)).zip ns).map fun x => (x.1.1, x.1.2, x.2)).map (fun x => ((trayAt r t).getD x.1 0, x.2)) = tagged r (z.map fun x => x.1) ns := fun z => by
    induction z with
    | nil => intro ns _; rfl
    | cons x z ih =>
      intro ns hz
      cases ns with
      | nil => rfl
      | cons n ns =>
        have hx := hz x List.mem_cons_self
        have ih := ih ns fun y hy => hz y (List.mem_cons_of_mem _ hy)
        unfold tagged at ih ⊢
        simp only [List.map_cons, List.zip_cons_cons] at ih ⊢
        rw [ih, List.getD_eq_getElem?_getD, hx]
        rfl
  rw [key _ ns fun x hx => zipIdx_get (List.mem_filter.mp hx).1, zipIdx_filter_fst (fun n => homeOf r n == t)]
  rfl
/-- one card more is looked at: w is still wanted, low is the last key taken -/
theorem stay_step (w : Nat) (low : Option Int) (n : Nat) (k : Int) (len : Nat) (l : List (Nat × Int × Nat)) (hlen : 1 ≤ len) :
    stayFrom w low ((n, k, len) :: l) = if (decide (len = w) && fits low k) = true then n :: stayFrom (w - 1) (some k) l else stayFrom w low l := by
  rw [stay_unf]
  by_cases h1 : len = w
  · have hw : w ≠ 0 := by omega
    by_cases h2 : fits low k = true
    · rw [if_pos ⟨h1, hw, h2⟩, if_pos (by rw [decide_eq_true h1, h2]; rfl)]
    · rw [if_neg (fun q => h2 q.2.2), if_neg (fun q => h2 (Bool.and_eq_true_iff.mp q).2)]
  · rw [if_neg (fun q => h1 q.1), if_neg (fun q => h1 (by simpa using (Bool.and_eq_true_iff.mp q).1))]
theorem foldl_max_int : ∀ (ns : List Nat) (n : Nat), (ns.map fun (x : Nat) => (x : Int)).foldl max (n : Int) = ((ns.foldl max n : Nat) : Int)
  | [], n => rfl
  | x :: ns, n => by
    rw [List.map_cons, List.foldl_cons, List.foldl_cons, ← foldl_max_int ns (max n x)]
    refine congrArg (fun z : Int => List.foldl max z _) ?_
    omega
/-! ### what stays is a part of what lies -/
theorem stay_sub : ∀ (l : List (Nat × Int × Nat)) (w : Nat) (low : Option Int), (stayFrom w low l).Sublist (l.map fun x => x.1)
  | [], _, _ => List.Sublist.slnil
  | x :: l, w, low => by
    rw [stay_unf, List.map_cons]
    split
    · exact (stay_sub l _ _).cons_cons _
    · exact (stay_sub l _ _).cons _
theorem tagged_fst (r : Room) : ∀ (l ns : List Nat), l.length = ns.length → (tagged r l ns).map (fun x => x.1) = l
  | [], [], _ => rfl
  | [], _ :: _, h => by simp at h
  | _ :: _, [], h => by simp at h
  | a :: l, n :: ns, h => by
    have ih := tagged_fst r l ns (by simpa using h)
    unfold tagged at ih ⊢
    simp only [List.zip_cons_cons, List.map_cons] at ih ⊢
    rw [ih]
theorem staying_sub (r : Room) (t : Nat) : (staying r t).Sublist (trayAt r t) := by
  rw [staying_eq]
  refine (stay_sub _ _ _).trans ?_
  rw [tagged_fst r _ _ (by rw [lens_len, List.length_map])]
  exact List.filter_sublist ..
theorem flatMap_sub {α β : Type} (f g : α → List β) : ∀ (l : List α), (∀ x ∈ l, (f x).Sublist (g x)) → (l.flatMap f).Sublist (l.flatMap g)
  | [], _ => List.Sublist.slnil
  | x :: l, h => by
    rw [List.flatMap_cons, List.flatMap_cons]
    exact (h x List.mem_cons_self).append (flatMap_sub f g l fun y hy => h y (List.mem_cons_of_mem _ hy))
theorem range_trays (L : List (List Nat)) : (List.range L.length).flatMap (fun t => L.getD t []) = L.flatten := by
  rw [List.flatMap_def]
  refine congrArg List.flatten ?_
  refine List.ext_getElem? fun i => ?_
  rw [List.getElem?_map]
  by_cases h : i < L.length
  · rw [List.getElem?_range h, List.getElem?_eq_getElem h]
    simp only [Option.map_some]
    rw [List.getD_eq_getElem?_getD, List.getElem?_eq_getElem h]
    rfl
  · rw [List.getElem?_eq_none (by simpa using h), List.getElem?_eq_none (by omega)]
    rfl
theorem allStaying_sub (r : Room) : (allStaying r).Sublist (lying r) := by
  unfold allStaying lying
  rw [← range_trays]
  exact flatMap_sub _ _ _ fun t _ => staying_sub r t
theorem lying_nd {r : Room} (I : RInv r) : (lying r).Nodup := by
  rw [List.nodup_iff_count]
  intro a
  have c := I.cnt a
  have d := List.nodup_iff_count.mp I.nd a
  unfold lying
  omega
theorem filter_out_len {l s : List Nat} (nd : l.Nodup) (h : s.Sublist l) : (l.filter fun n => !s.contains n).length = l.length - s.length := by
  have key : ∀ {s l : List Nat}, s.Sublist l → l.Nodup → (l.filter fun n => !s.contains n).length + s.length = l.length := by
    intro s l h
    induction h with
    | slnil => intro _; rfl
    | @cons s l x h ih =>
      intro nd
      obtain ⟨h1, h2⟩ := List.nodup_cons.mp nd
      have hx : s.contains x = false := by
        cases e : s.contains x with
        | false => rfl
        | true => exact absurd (h.subset (by simpa using e)) h1
      rw [List.filter_cons, if_pos (by rw [hx]; rfl), List.length_cons, List.length_cons]
      have := ih h2
      omega
    | @cons_cons s l x h ih =>
      intro nd
      obtain ⟨h1, h2⟩ := List.nodup_cons.mp nd
      rw [List.filter_cons, if_neg (by simp)]
      have e : (l.filter fun n => !(x :: s).contains n) = l.filter fun n => !s.contains n := List.filter_congr fun y hy => by
        rw [List.contains_cons]
        have : (y == x) = false := by
          simp only [beq_eq_false_iff_ne, ne_eq]
          intro q
          subst q
          exact h1 hy
        rw [this]
        rfl
      rw [e, List.length_cons, List.length_cons]
      have := ih h2
      omega
  have := key h nd
  omega
def toMove (r : Room) : List Nat := (lying r).filter fun n => !(allStaying r).contains n
theorem least_eq {r : Room} (I : RInv r) : (toMove r).length = least r := filter_out_len (lying_nd I) (allStaying_sub r)
theorem toMove_flat (r : Room) (s : List Nat) : (r.trays.flatMap fun l => l.filter fun n => !s.contains n) = (lying r).filter fun n => !s.contains n := by
  unfold lying
  induction r.trays with
  | nil => rfl
  | cons l L ih => rw [List.flatMap_cons, List.flatten_cons, List.filter_append, ih]
/-! ### the place behind the last that is settled -/
def placeIn (p : Nat → Bool) (l : List Nat) : Nat := ((l.zipIdx.filter fun x => p x.1).map fun x => x.2 + 1).foldl max 0
theorem place_le (p : Nat → Bool) (l : List Nat) : placeIn p l ≤ l.length := by
  unfold placeIn
  have h : ∀ (z : List (Nat × Nat)) (m b : Nat), m ≤ b → (∀ x ∈ z, x.2 + 1 ≤ b) → (z.map fun x => x.2 + 1).foldl max m ≤ b := fun z => by
    induction z with
    | nil => intro m b hm _; exact hm
    | cons x z ih =>
      intro m b hm hz
      rw [List.map_cons, List.foldl_cons]
      have := hz x List.mem_cons_self
      exact ih _ _ (by omega) fun y hy => hz y (List.mem_cons_of_mem _ hy)
  refine h _ 0 _ (Nat.zero_le _) fun x hx => ?_
  have := (List.getElem?_eq_some_iff.mp (zipIdx_get (List.mem_filter.mp hx).1)).1
  omega
theorem place_snoc (p : Nat → Bool) (l : List Nat) (n : Nat) : placeIn p (l ++ [n]) = if p n = true then l.length + 1 else placeIn p l := by
  have hle := place_le p l
  have e : (l ++ [n]).zipIdx = l.zipIdx ++ [(n, l.length)] := by
    rw [List.zipIdx_append]
    simp
  unfold placeIn at hle ⊢
  rw [e, List.filter_append, List.map_append, List.foldl_append]
  by_cases h : p n = true
  · have e2 : ([(n, l.length)].filter fun x : Nat × Nat => p x.1) = [(n, l.length)] := by
      rw [List.filter_cons, if_pos h]; rfl
    rw [if_pos h, e2]
    simp only [List.map_cons, List.map_nil, List.foldl_cons, List.foldl_nil]
    omega
  · have e2 : ([(n, l.length)].filter fun x : Nat × Nat => p x.1) = [] := by
      rw [List.filter_cons, if_neg h]; rfl
    rw [if_neg h, e2]
    rfl
theorem placeFor_eq (r : Room) (s l : List Nat) (n : Nat) : placeFor r s l n = placeIn (fun x => s.contains x && decide (keyOf r x ≤ keyOf r n)) l := rfl
theorem placeFor_le (r : Room) (s l : List Nat) (n : Nat) : placeFor r s l n ≤ l.length := by
  rw [placeFor_eq]
  exact place_le _ l
theorem placeFor_congr {r : Room} {s s' l : List Nat} {n : Nat} (h : ∀ x, s.contains x = s'.contains x) : placeFor r s l n = placeFor r s' l n := by
  rw [placeFor_eq, placeFor_eq]
  refine congrArg (fun p => placeIn p l) (funext fun x => ?_)
  rw [h x]
/-! ### the plan -/
theorem planFrom_congr : ∀ (l : List Nat) {r : Room} {s s' : List Nat}, (∀ x, s.contains x = s'.contains x) → planFrom r s l = planFrom r s' l
  | [], _, _, _, _ => rfl
  | n :: l, r, s, s', h => by
    simp only [planFrom]
    cases (List.range r.trays.length).find? fun t => (trayAt r t).contains n with
    | none => exact planFrom_congr l h
    | some t =>
      simp only
      rw [placeFor_congr h]
      refine congrArg _ (planFrom_congr l fun x => ?_)
      rw [List.contains_cons, List.contains_cons, h x]
end Cc

set_option Elab.async false
set_option linter.all false
set_option maxRecDepth 100000
set_option maxHeartbeats 4000000
namespace Cc
open PySem PySem.Spec PyProof.Rows L2

/-! ### defs by their names -/
section
variable (P : Program) (w : World) (K : PySem.W.Frag) (mg : Str → Option Value) (base : Heap)
/-- a def of the top keeps a promise -/
def FnG (x : Str) (k : Nat) (ps : List Str) (sp : Sp) : Prop := ∃ f fd, mg x = some (.ref f) ∧ PySem.W.keepIn K (.ref f) = true ∧ Binds K fd ps [] ∧ FnOk P w K mg base CX0 k f fd ps sp
/-- a method does -/
def MtG (C : Addr) (m : Str) (k : Nat) (ps : List Str) (sp : Sp) : Prop := ∃ f fd, Meth K C m f ∧ Binds K fd ps [] ∧ FnOk P w K mg base CX0 k f fd ps sp
/-- a class that is made by its __init__ -/
def MkG (C : Addr) (x : Str) (k : Nat) (ps : List Str) (sp : Sp) : Prop := ∃ f fd, Mk K C f ∧ mg x = some (.ref C) ∧ Binds K fd ps [] ∧ FnOk P w K mg base CX0 k f fd ps sp
/-- a def stands behind the top -/
def DefAt (x : Str) (st : Stmt) : Prop := ∃ f fd, mg x = some (.ref f) ∧ FunD K x x (defArgs st) (defBody st) (defScope st) [] [] f fd
def MetAt (C : Addr) (m q : Str) (st : Stmt) : Prop := ∃ f fd, Meth K C m f ∧ FunD K m q (defArgs st) (defBody st) (defScope st) [] [] f fd
end
section
variable {P : Program} {w : World} {K : PySem.W.Frag} {mg : Str → Option Value} {base : Heap}
theorem DefAt.fn {x : Str} {st : Stmt} {N ps : List Str} {k : Nat} {sp : Sp} (D : DefAt K mg x st) (S : FnScope N ps (defScope st))
    (bn : ∀ (kV doc pm : Value) (an : Option Addr) (cdv ct : Value) (us : List Value), us.length = ps.length → bindArgs (PySem.W.fnOf x x (defArgs st) (defBody st) (defScope st) .none kV doc pm an cdv ct) ⟨us, []⟩ = pure (ps.zip us))
    (len : ∀ vs H Q E, sp vs H Q E → vs.length = ps.length) (body : ∀ (f : Addr) (cdv : Value) (A : Around) (outer : List Env) (s : Shared) (H : Hp) (vs : List V) (Q : VK) (E : XK), L2.Room k (A.deeper (envOfC x (defScope st) s.heap.objs.size f cdv)) → sp vs H Q E →
      ∃ t, PSs (cxOf CX0 P w K mg base N x (defScope st) f cdv A outer s H E).nox (defBody st) t ∧ t { nx := fun _ H' => Q .non H', rt := Q } (L2.start N vs) H) : FnG P w K mg base x (k + 1) ps sp := by
  obtain ⟨f, fd, m, F⟩ := D
  refine ⟨f, fd, m, F.kp, F.bindsN bn, F.ok S len fun cdv A outer s H vs Q E hr h => ?_⟩
  obtain ⟨t, a, b⟩ := body f cdv A outer s H vs Q E hr h
  exact ⟨t, PSs.nox a, b⟩
theorem MetAt.mt {C : Addr} {m q : Str} {st : Stmt} {N ps : List Str} {k : Nat} {sp : Sp} (D : MetAt K C m q st) (S : FnScope N ps (defScope st))
    (bn : ∀ (kV doc pm : Value) (an : Option Addr) (cdv ct : Value) (us : List Value), us.length = ps.length → bindArgs (PySem.W.fnOf m q (defArgs st) (defBody st) (defScope st) .none kV doc pm an cdv ct) ⟨us, []⟩ = pure (ps.zip us))
    (len : ∀ vs H Q E, sp vs H Q E → vs.length = ps.length) (body : ∀ (f : Addr) (cdv : Value) (A : Around) (outer : List Env) (s : Shared) (H : Hp) (vs : List V) (Q : VK) (E : XK), L2.Room k (A.deeper (envOfC q (defScope st) s.heap.objs.size f cdv)) → sp vs H Q E →
      ∃ t, PSs (cxOf CX0 P w K mg base N q (defScope st) f cdv A outer s H E).nox (defBody st) t ∧ t { nx := fun _ H' => Q .non H', rt := Q } (L2.start N vs) H) : MtG P w K mg base C m (k + 1) ps sp := by
  obtain ⟨f, fd, hm, F⟩ := D
  refine ⟨f, fd, hm, F.bindsN bn, F.ok S len fun cdv A outer s H vs Q E hr h => ?_⟩
  obtain ⟨t, a, b⟩ := body f cdv A outer s H vs Q E hr h
  exact ⟨t, PSs.nox a, b⟩
end
section
variable {X : Cx} {k : Nat} {C : Addr} {ps : List Str} {sp : Sp} {x m : Str} {p pos apos : Pos} {e o : Expr} {es : List Expr} {ta : TE} {t : TA}
theorem pe_fn (g : FnG X.prog X.w X.K X.mg X.base x k ps sp) (hr : L2.Room k X.A) (ha : PA X (e :: es) t) (hg : Gl X x := by rfl) (hdb : (x == ("__debug__" : Str)) = false := by decide) (he : starEach (e :: es) X.env = (false, eval e X.env) :: starEach es X.env := by rfl) (hpl : (backTo pos (starEach es X.env)).any (·.1) = false := by rfl) :
    PE X (.Call (.Name x p) (e :: es) [] pos) (tCall sp [] E0 t) := by
  obtain ⟨f, fd, hm, kp, b, G⟩ := g
  exact pe_call G hr hg hm kp b .nil pass0 ha hdb he hpl
theorem pe_fn0 (g : FnG X.prog X.w X.K X.mg X.base x k ps sp) (hr : L2.Room k X.A) (hg : Gl X x := by rfl) (hdb : (x == ("__debug__" : Str)) = false := by decide) :
    PE X (.Call (.Name x p) [] [] pos) (tCall sp [] E0 tNil) := by
  obtain ⟨f, fd, hm, kp, b, G⟩ := g
  exact pe_call0 G hr hg hm kp b .nil pass0 hdb
theorem pe_mt {pl : Sem Bool} (g : MtG X.prog X.w X.K X.mg X.base C m k ps sp) (c : Cls X.K C) (hr : L2.Room k X.A) (ho : PE X o ta) (ha : PA X (e :: es) t) (hst : starEach (e :: es) X.env = (false, eval e X.env) :: starEach es X.env := by rfl) (hpl : (backTo pos (starEach es X.env)).any (·.1) = false := by rfl) (ht : eval (.Call (.Attribute o m apos) (e :: es) [] pos) X.env = (do let ov ← eval o X.env; standAt apos.atName; let (f, first) ← holding [ov] (getMethod ov m pl); callWith pos f first (backTo pos (starEach (e :: es) X.env)) (backToKw pos (keywordEach [] X.env))) := by rfl) :
    PE X (.Call (.Attribute o m apos) (e :: es) [] pos) (tMeth C m sp [] E0 ta t) := by
  obtain ⟨f, fd, hm, b, G⟩ := g
  exact pe_meth (pl := pl) ho c hm G hr b .nil pass0 ha hst hpl ht
theorem pe_mt0 {pl : Sem Bool} (g : MtG X.prog X.w X.K X.mg X.base C m k ps sp) (c : Cls X.K C) (hr : L2.Room k X.A) (ho : PE X o ta) (ht : eval (.Call (.Attribute o m apos) [] [] pos) X.env = (do let ov ← eval o X.env; standAt apos.atName; let (f, first) ← holding [ov] (getMethod ov m pl); callWith pos f first (backTo pos (starEach [] X.env)) (backToKw pos (keywordEach [] X.env))) := by rfl) :
    PE X (.Call (.Attribute o m apos) [] [] pos) (tMeth C m sp [] E0 ta tNil) := by
  obtain ⟨f, fd, hm, b, G⟩ := g
  exact pe_meth0 (pl := pl) ho c hm G hr b .nil pass0 ht
theorem pe_mk (g : MkG X.prog X.w X.K X.mg X.base C x k ps sp) (hr : L2.Room (k + 1) X.A) (ha : PA X (e :: es) t) (hg : Gl X x := by rfl) (hdb : (x == ("__debug__" : Str)) = false := by decide) (he : starEach (e :: es) X.env = (false, eval e X.env) :: starEach es X.env := by rfl) (hpl : (backTo pos (starEach es X.env)).any (·.1) = false := by rfl) :
    PE X (.Call (.Name x p) (e :: es) [] pos) (tMake C sp [] E0 t) := by
  obtain ⟨f, fd, M, hm, b, G⟩ := g
  exact pe_make M G hr hg hm b .nil pass0 ha hdb he hpl
/-- a number of the module's top -/
theorem pe_num {i : Int} (hm : ∃ tk, X.mg x = some (.int i tk)) (hg : Gl X x := by rfl) (hdb : (x == ("__debug__" : Str)) = false := by decide) : PE X (.Name x pos) (tC (.int i)) := by
  obtain ⟨tk, e⟩ := hm
  exact pe_glob hg e ⟨tk, rfl⟩ hdb
end

/-! ### values that leave the heap as it is -/
section
variable {σ : L2.St} {H : Hp} {ta tb tc te : TE} {K : PySem.W.Frag} {x y z v : V} {b : Bool}
def ValA (t : TA) (σ : L2.St) (H : Hp) (vs : List V) : Prop := ∀ Q : List V → Hp → Prop, Q vs H → t σ H Q
theorem va_nil : ValA tNil σ H [] := fun _ q => q
theorem va_cons {tr : TA} {vs : List V} (h : Val ta σ H v) (hr : ValA tr σ H vs) : ValA (tCons ta tr) σ H (v :: vs) := fun Q q => h _ (hr _ q)
theorem va_1 (h : Val ta σ H v) : ValA (tCons ta tNil) σ H [v] := va_cons h va_nil
/-- what a def gives back, and nothing else -/
def SpP (sp : Sp) (vs : List V) (H : Hp) (v : V) : Prop := ∀ (Q : VK) (E : XK), Q v H → sp vs H Q E
theorem val_call {sp : Sp} {E : XK} {t : TA} {vs : List V} (h : ValA t σ H vs) (hs : SpP sp (vs ++ []) H v) : Val (tCall sp [] E t) σ H v := fun Q q => h _ (hs _ _ q)
theorem val_meth {C a dx : Addr} {m : Str} {fs : List (Str × V)} {sp : Sp} {E : XK} {t : TA} {vs : List V} (ho : Val ta σ H (.ref a)) (hi : H a = some (.ins C dx fs)) (hl : fs.lookup m = none) (h : ValA t σ H vs) (hs : SpP sp (.ref a :: (vs ++ [])) H v) :
    Val (tMeth C m sp [] E ta t) σ H v := fun Q q => ho _ ⟨a, dx, fs, rfl, hi, hl, h _ (hs _ _ q)⟩
theorem val_ixL {p : Addr} {xs : List V} {j : Nat} {i : Int} (ha : Val ta σ H (.ref p)) (hb : Val tb σ H (.int i)) (h : SqL K H p xs) (e : i = (j : Int)) (hx : xs[j]? = some v) : Val (tOp (rIxL K) ta tb) σ H v :=
  val_op ha hb fun Q q => ⟨p, xs, i, v, rfl, rfl, h, at_of e hx, q⟩
theorem val_ixT {p : Addr} {xs : List V} {j : Nat} {i : Int} (ha : Val ta σ H (.ref p)) (hb : Val tb σ H (.int i)) (h : SqT K H p xs) (e : i = (j : Int)) (hx : xs[j]? = some v) : Val (tOp (rIxT K) ta tb) σ H v :=
  val_op ha hb fun Q q => ⟨p, xs, i, v, rfl, rfl, h, at_of e hx, q⟩
theorem val_I {g : Int → Int → V} {i j : Int} (ha : Val ta σ H (.int i)) (hb : Val tb σ H (.int j)) : Val (tOp (rI0 g) ta tb) σ H (g i j) := val_op ha hb fun Q q => ⟨i, j, rfl, rfl, q⟩
theorem val_cb {r : List V → Hp → VK → Prop} {t : TA} {vs : List V} (h : ValA t σ H vs) (hr : ∀ Q : VK, Q v H → r vs H Q) : Val (tCB r t) σ H v := fun Q q => h _ (hr _ q)
theorem val_andV {c d : Bool} (ha : Val ta σ H (.bl c)) (hb : Val tb σ H (.bl d)) : Val (tAndV ta tb) σ H (.bl (c && d)) := fun Q q => ha _ ⟨c, rfl, by
  cases c with
  | true => exact iteT (hb _ q)
  | false => exact iteF q⟩
theorem val_chain {r r' : R2} {c d : Bool} (ha : Val ta σ H x) (hb : Val tb σ H y) (hc : Val tc σ H z) (h1 : ∀ Q : VK, Q (.bl c) H → r x y H Q) (h2 : ∀ Q : VK, Q (.bl d) H → r' y z H Q) : Val (tChain r r' ta tb tc) σ H (.bl (c && d)) := fun Q q =>
  ha _ (hb _ (h1 _ ⟨c, rfl, by
    cases c with
    | true => exact iteT (hc _ (h2 _ q))
    | false => exact iteF q⟩))
/-- lo <= e <= hi -/
theorem val_btw {i j k : Int} (ha : Val ta σ H (.int i)) (hb : Val tb σ H (.int j)) (hc : Val tc σ H (.int k)) :
    Val (tChain (rI0 fun i j => .bl (decide (i ≤ j))) (rI0 fun i j => .bl (decide (i ≤ j))) ta tb tc) σ H (.bl (VbenCore.isBetween j i k)) :=
  val_chain ha hb hc (fun Q q => ⟨i, j, rfl, rfl, q⟩) (fun Q q => ⟨j, k, rfl, rfl, q⟩)
theorem val_din {ty td : TE} {d : Addr} {o : Option V} (hy : Val ty σ H y) (hd : Val td σ H (.ref d)) (h : DGet H d y o) : Val (tDIn ty td) σ H (.bl o.isSome) := fun Q q => hy _ (hd _ ⟨d, o, rfl, h, q⟩)
theorem val_dnotin {ty td : TE} {d : Addr} {o : Option V} (hy : Val ty σ H y) (hd : Val td σ H (.ref d)) (h : DGet H d y o) : Val (tDNotIn ty td) σ H (.bl (!o.isSome)) := fun Q q => hy _ (hd _ ⟨d, o, rfl, h, q⟩)
theorem val_dget {ty td : TE} {d : Addr} (hd : Val td σ H (.ref d)) (hy : Val ty σ H y) (h : DGet H d y (some v)) : Val (tDGet td ty) σ H v := fun Q q => hd _ (hy _ ⟨d, v, rfl, h, q⟩)
theorem val_isI {i : Int} : Val (tC (.int i)) σ H (.int i) := val_c
theorem Val.to (h : Val te σ H v) (e : v = z) : Val te σ H z := e ▸ h
theorem ans_orB {t u : TT} {c d : Bool} (h1 : Ans t σ H c) (h2 : Ans u σ H d) : Ans (tOr t u) σ H (c || d) := fun Q q => h1 _ (by
  cases c with
  | true => exact iteT q
  | false => exact iteF (h2 _ q))
end

/-! ### ints and lists of them -/
def nv (l : List Nat) : List V := l.map fun (n : Nat) => V.int (n : Int)
theorem nv_get {l : List Nat} {i n : Nat} (h : l[i]? = some n) : (nv l)[i]? = some (.int (n : Int)) := by
  unfold nv
  rw [List.getElem?_map, h]
  rfl
theorem nv_len (l : List Nat) : (nv l).length = l.length := List.length_map ..
theorem nv_app (l m : List Nat) : nv (l ++ m) = nv l ++ nv m := List.map_append
theorem nv_ints (l : List Nat) : nv l = (VbenCore.ints l).map V.int := by
  unfold nv VbenCore.ints
  rw [List.map_map]
  rfl
theorem nv_flat (l : List Nat) : (nv l).all flatV = true := by
  rw [List.all_eq_true]
  intro v hv
  obtain ⟨n, _, rfl⟩ := List.mem_map.mp hv
  rfl
theorem nv_in (l : List Nat) (n : Nat) : inV (.int (n : Int)) (nv l) = l.contains n := by
  unfold inV nv
  rw [List.any_map]
  induction l with
  | nil => rfl
  | cons x l ih =>
    rw [List.any_cons, List.contains_cons, ih]
    refine congrArg (· || _) ?_
    show eqV (.int (x : Int)) (.int (n : Int)) = (n == x)
    have e : eqV (.int (x : Int)) (.int (n : Int)) = decide ((x : Int) = (n : Int)) := by
      first | rfl | simp [eqV]
    rw [e]
    by_cases h : n = x
    · subst h; simp
    · have h2 : ¬ (x : Int) = (n : Int) := by omega
      simp [h, h2]
end Cc

set_option Elab.async false
set_option linter.all false
set_option maxRecDepth 100000
set_option maxHeartbeats 4000000
namespace Cc
open PySem PySem.Spec PyProof.Rows L2

/-! ### rules told over a written part that doesn't hang on the block's letters -/
theorem call_lenK {X : Cx} {K : PySem.W.Frag} (h : X.K = K := by rfl) : CallR X (.builtin "len") (fun xs H Q => ∃ p ys, xs = [.ref p] ∧ (SqL K H p ys ∨ SqT K H p ys) ∧ Q (.int ys.length) H) := by
  subst h
  exact call_len_seq
theorem call_list_ofK {X : Cx} {K : PySem.W.Frag} (h : X.K = K := by rfl) : CallR X (.type "list") (fun xs H Q => ∃ p ys, xs = [.ref p] ∧ (SqL K H p ys ∨ SqT K H p ys) ∧ ∀ l, H l = none → Q (.ref l) (upd H l (.lst ys))) := by
  subst h
  exact call_list_of
theorem pe_fldK {X : Cx} {K : PySem.W.Frag} {e : Expr} {f : Str} {pos : Pos} {ta : TE} (he : PE X e ta) (hb : attributeBase e f X.env (eval e X.env) = eval e X.env) (h : X.K = K := by rfl) : PE X (.Attribute e f pos) (tFld K ta f) := by
  subst h
  exact pe_fld he hb
/-! ### xs.extend(row), a list or a tuple -/
/-- as the list's own lemma, the tuple's object with any dict and slots -/
theorem ext_tup (l : Addr) (us : Array Value) (n : Nat) (b : Addr) (ws : Array Value) (m : Nat) (dd : Option Addr) (sl : Array (Option Value)) (h0 : ¬(!us.isEmpty && Builtin.List.listTooLong (us.size + ws.size)) = true) (h1 : us.size ≤ sizeLine) (h2 : us.size + ws.size ≤ sizeLine + 1) :
    Meets (Builtin.«list.extend» ⟨[.ref l, .ref b], []⟩) (fun _ R s => s.heap.get? l = some { cls := .type "list", dict := none, data := .seq us n, slots := #[] } ∧ s.heap.get? b = some { cls := .type "tuple", dict := dd, data := .seq ws m, slots := sl } ∧
      R (.ok (.ret Value.none)) { s with heap := s.heap.update l (Obj.mapSeq fun x => x ++ ws), toks := s.toks }) := by
  have c1 := AutoSeq1.sub_tuple_tuple; have c2 := AutoSeq1.sub_list_list; have c3 := AutoSeq1.sub_tuple_list; have c4 := AutoSeq1.sub_list_tuple
  have h3 : (us ++ ws).size ≤ sizeLine + 1 := Array.size_append (xs := us) (ys := ws) ▸ h2
  refine .of_wp fun P w A R s ⟨e1, e2, e3⟩ => ?_
  cases s
  wp_walk using (wpAny_updateSeq e1 rfl (hz := h1) (_hz' := h3)), AutoSeq1.wpAny_loadPart' e1, AutoSeq1.wpAny_loadPart' e2
  exact ⟨_, rfl, e3⟩
def rExtA : V → List V → Hp → VK → Prop := fun x vs H Q => ∃ l b xs zs, x = .ref l ∧ vs = [.ref b] ∧ H l = some (.lst xs) ∧ (H b = some (.lst zs) ∨ H b = some (.tup zs)) ∧ xs.length + zs.length ≤ sizeLine ∧ Q .non (upd H l (.lst (xs ++ zs)))
theorem mt_extA {X : Cx} : MtM X "list.extend" rExtA := by
  rintro pins s σ H x vs v ws Q I rx rv ⟨l, b, xs, zs, rfl, rfl, hl, hb | hb, hz, q⟩
  · exact mt_extend pins s σ H _ _ v ws Q I rx rv ⟨l, b, xs, zs, rfl, rfl, hl, hb, hz, q⟩
  cases rx
  obtain ⟨y, rfl, ry⟩ := rv.one
  cases ry
  obtain ⟨_, as, n, ra, la, ea⟩ := I.lstM hl
  obtain ⟨_, bs, rb, ⟨_, dd, _, sl⟩, eb, c, m, d⟩ := I.hok b _ hb
  cases c
  cases d
  have lb := rb.length
  have tot : as.toArray.size + bs.toArray.size ≤ sizeLine := by simp only [List.size_toArray]; omega
  have one : as.toArray.size ≤ sizeLine := Nat.le_trans (Nat.le_add_right _ _) tot
  refine call_meets F.slot_list_extend ⟨_, ea, rfl⟩ F.entry_list_extend (F.args_list_extend_2 _ _) (ext_tup l as.toArray n b bs.toArray m dd sl (fun z => Bool.false_ne_true ((notLongL tot).symm.trans (Bool.and_eq_true_iff.mp z).2)) one (Nat.le_succ_of_le tot)) ⟨ea, eb, .non, _, I.lset (its' := as ++ bs) hl ea (by simp) (ra.append rb) (by rw [List.length_append]; exact hz), rfl, q⟩

/-! ### max(xs, default=d) -/
theorem reads_ints {h : Heap} : ∀ {us : List Value} {ns : List Int}, IntsAre us ns → ReadsAll h us (ns.map PyData.int) []
  | _, _, .nil => .nil
  | _, _, .cons n k t => ReadsAll.cons (as := []) (.int n k) (reads_ints t)
theorem depth_ints (ns : List Int) : PyData.depthAll (ns.map PyData.int) ≤ 1 := by
  induction ns with
  | nil => exact Nat.zero_le _
  | cons n ns ih => exact Nat.max_le.mpr ⟨by show 0 ≤ 1; decide, ih⟩
theorem alike_ints (ns : List Int) : W.AlikeAll (ns.map PyData.int) := ⟨fun x hx y hy => by
    obtain ⟨_, _, rfl⟩ := List.mem_map.mp hx
    obtain ⟨_, _, rfl⟩ := List.mem_map.mp hy
    rfl, fun x hx q => by
    obtain ⟨_, _, e⟩ := List.mem_map.mp hx
    rw [q] at e
    cases e⟩
def rMaxD (K : PySem.W.Frag) : List V → List V → Hp → VK → Prop := fun vs zs H Q => ∃ (a : Addr) (ns : List Int) (d : Int), vs = [V.ref a] ∧ zs = [.int d] ∧ SqL K H a (ns.map V.int) ∧ (ns = [] → Q (.int d) H) ∧ ∀ n ms, ns = n :: ms → Q (.int (ms.foldl max n)) H
theorem cr_maxD {X : Cx} (hc : X.calm = true) (hu : X.A.units + 64 < cLine) : CallRK X (.builtin "max") [Str.ofString "default"] (rMaxD X.K) := by
  rintro pins s σ H _ _ us ws Q I r rz ⟨a, ns, d, rfl, rfl, hs, q0, q1⟩
  obtain rfl := Vals.ref1 r
  obtain ⟨_, rfl, tk, rfl⟩ := vals1 rz
  obtain ⟨us, ru, pl, _⟩ := I.list hs
  refine W.max_list_default (xs := ns.map PyData.int) (as := []) (I.ok.hd hc) pl.isList (reads_ints (by simpa using ru.ints)) (alike_ints ns) (Nat.lt_of_le_of_lt (Nat.add_le_add_left (depth_ints ns) _) (by omega))
    (fun e h' t k => ⟨.int d, H, I.kept k, ⟨_, rfl⟩, q0 (List.map_eq_nil_iff.mp e)⟩) (fun y ys i v h' t bs e _ hr k => ?_)
  cases ns with
  | nil => cases e
  | cons n ms =>
    obtain ⟨rfl, rfl⟩ := List.cons.inj e
    rw [W.maxD_ints] at hr
    cases hr
    exact ⟨.int _, H, I.kept k, ⟨_, rfl⟩, q1 n ms rfl⟩

/-! ### set(xs) of numbers, and how many it has -/
def dedup (ns : List Int) : List Int := PyProof.Rows.firstMet (fun i => ns.getD i 0) ns.length
theorem cr_setI {X : Cx} (hc : X.calm = true) : CallR X (.type "set") (fun xs H Q => ∃ (l : Addr) (ns : List Int), xs = [.ref l] ∧ SqL X.K H l (ns.map V.int) ∧ ns.length ≤ 4000 ∧ ∀ p, H p = none → Q (.ref p) (upd H p (.set (fun k => (dedup ns).any (· == k)) (dedup ns).length))) := by
  rintro pins s σ H _ us Q I r ⟨l, ns, rfl, hs, hn, q⟩
  obtain rfl := Vals.ref1 r
  obtain ⟨us, ru, pl, _⟩ := I.list hs
  have e : us.toArray.size = ns.length := (List.size_toArray ..).trans (ru.length.symm.trans (List.length_map ..))
  refine call_set_list (I.ok.hd hc) pl.isList (by simpa using ru.ints) (by rw [e]; exact Nat.lt_of_le_of_lt (Nat.succ_le_succ hn) (by decide)) fun h' t S k => ?_
  rw [e] at S
  exact ⟨.ref _, _, I.laid (o := .set (fun k => (dedup ns).any (· == k)) (dedup ns).length) (fun b o z => k b o (Heap.lt_size z) z) (Nat.le_refl _) S, rfl, q _ (I.hok.fresh (Nat.le_refl _))⟩
theorem cr_lenS {X : Cx} : CallR X (.builtin "len") (fun xs H Q => ∃ (a : Addr) (S : Int → Bool) (n : Nat), xs = [.ref a] ∧ H a = some (.set S n) ∧ n ≤ 4000 ∧ Q (.int (n : Nat)) H) := by
  rintro pins s σ H _ us Q I r ⟨a, S, n, rfl, ha, hn, q⟩
  obtain rfl := Vals.ref1 r
  obtain ⟨o, es, ep, t, g, ex, da, _, _, _, fr, sz⟩ := I.hok a _ ha
  exact call_len_set g ex da fr (by omega) ⟨.int (n : Nat), H, I.tok _, ⟨_, by rw [sz]⟩, q⟩
theorem met_full {ns : List Int} : ∀ i, i ≤ ns.length → (PyProof.Rows.firstMet (fun i => ns.getD i 0) i).length = i → PyProof.Rows.firstMet (fun i => ns.getD i 0) i = ns.take i ∧ (ns.take i).Nodup
  | 0, _, _ => ⟨rfl, by simp⟩
  | i + 1, hi, he => by
    have g : ns[i]? = some (ns.getD i 0) := by rw [List.getD_eq_getElem?_getD, List.getElem?_eq_getElem hi]; rfl
    have le := PyProof.Rows.firstMet_length_le (fun i => ns.getD i 0) i
    rw [PyProof.Rows.firstMet_succ] at he ⊢
    unfold PyProof.Rows.step_dedup at he ⊢
    split at he
    · omega
    rename_i no
    rw [if_neg no]
    obtain ⟨h1, h2⟩ := met_full i (Nat.le_of_succ_le hi) (by simpa using he)
    rw [h1] at no ⊢
    rw [List.take_add_one, g]
    refine ⟨rfl, List.nodup_append.mpr ⟨h2, by simp, fun x hx y hy q => no (List.any_eq_true.mpr ⟨x, hx, ?_⟩)⟩⟩
    rw [q, List.mem_singleton.mp (show y ∈ [ns.getD i 0] from hy)]
    exact beq_self_eq_true _
theorem dedup_lt (ns : List Int) : decide ((dedup ns).length < ns.length) = !decide ns.Nodup := by
  have hle := PyProof.Rows.firstMet_length_le (fun i => ns.getD i 0) ns.length
  by_cases h : ns.Nodup
  · rw [decide_eq_true h]
    have := RZ.firstMet_nodup h ns.length (Nat.le_refl _)
    refine decide_eq_false ?_
    unfold dedup
    rw [this]
    simp
  · rw [decide_eq_false h]
    refine decide_eq_true ?_
    refine Nat.lt_of_le_of_ne hle fun e => h ?_
    have z := (met_full ns.length (Nat.le_refl _) e).2
    rwa [List.take_length] at z
end Cc

set_option Elab.async false
set_option linter.all false
set_option maxRecDepth 100000
set_option maxHeartbeats 4000000
namespace Cc
open PySem PySem.Spec PyProof.Rows L2

/-! ### the room as it lies in the heap -/
/-- where its parts stand: its dict, cards, trays, hands, lent, lost, journal; the rows of trays, hands, journal; the cards' pairs -/
structure Ad where
  dx : Addr
  cd : Addr
  td : Addr
  hd : Addr
  ld : Addr
  sd : Addr
  jd : Addr
  ts : List Addr
  hs : List Addr
  js : List Addr
  cs : List Addr
def Ad.flds (A : Ad) : List (Str × V) := [("cards", .ref A.cd), ("trays", .ref A.td), ("hands", .ref A.hd), ("lent", .ref A.ld), ("lost", .ref A.sd), ("journal", .ref A.jd)]
/-- what the room may change: itself and these -/
def Ad.own (A : Ad) : List Addr := [A.cd, A.td, A.hd, A.ld, A.sd, A.jd] ++ (A.ts ++ (A.hs ++ A.js))
/-- what a step may change: the journal's rows are kept as they are -/
def Ad.mut (A : Ad) : List Addr := [A.cd, A.td, A.hd, A.ld, A.sd, A.jd] ++ (A.ts ++ A.hs)
theorem mut_own {A : Ad} {b : Addr} (h : b ∈ A.mut) : b ∈ A.own := by
  simp only [Ad.mut, Ad.own, List.mem_append] at h ⊢
  rcases h with h | h | h
  · exact .inl h
  · exact .inr (.inl h)
  · exact .inr (.inr (.inl h))
theorem mut_own' {a : Addr} {A : Ad} {b : Addr} (h : b ∈ a :: A.mut) : b ∈ a :: A.own := by
  rcases List.mem_cons.mp h with e | m
  · rw [e]; exact List.mem_cons_self
  · exact List.mem_cons_of_mem _ (mut_own m)
theorem lk_here {k : Str} {v : V} {r : List (Str × V)} : List.lookup k ((k, v) :: r) = some v := by
  have e : (k == k) = true := beq_self_eq_true k
  simp only [List.lookup, e]
theorem lk_past {k g : Str} {v : V} {r : List (Str × V)} (h : (k == g) = false) : List.lookup k ((g, v) :: r) = List.lookup k r := by
  simp only [List.lookup, h]
section
variable (A : Ad)
theorem f_cards : A.flds.lookup ("cards" : Str) = some (.ref A.cd) := lk_here
theorem f_trays : A.flds.lookup ("trays" : Str) = some (.ref A.td) := (lk_past (by decide +kernel)).trans lk_here
theorem f_hands : A.flds.lookup ("hands" : Str) = some (.ref A.hd) := (lk_past (by decide +kernel)).trans ((lk_past (by decide +kernel)).trans lk_here)
theorem f_lent : A.flds.lookup ("lent" : Str) = some (.ref A.ld) := (lk_past (by decide +kernel)).trans ((lk_past (by decide +kernel)).trans ((lk_past (by decide +kernel)).trans lk_here))
theorem f_lost : A.flds.lookup ("lost" : Str) = some (.ref A.sd) := (lk_past (by decide +kernel)).trans ((lk_past (by decide +kernel)).trans ((lk_past (by decide +kernel)).trans ((lk_past (by decide +kernel)).trans lk_here)))
theorem f_journal : A.flds.lookup ("journal" : Str) = some (.ref A.jd) := (lk_past (by decide +kernel)).trans ((lk_past (by decide +kernel)).trans ((lk_past (by decide +kernel)).trans ((lk_past (by decide +kernel)).trans ((lk_past (by decide +kernel)).trans lk_here))))
theorem f_none {m : Str} (h1 : (m == ("cards" : Str)) = false) (h2 : (m == ("trays" : Str)) = false) (h3 : (m == ("hands" : Str)) = false) (h4 : (m == ("lent" : Str)) = false) (h5 : (m == ("lost" : Str)) = false) (h6 : (m == ("journal" : Str)) = false) : A.flds.lookup m = none :=
  (lk_past h1).trans ((lk_past h2).trans ((lk_past h3).trans ((lk_past h4).trans ((lk_past h5).trans ((lk_past h6).trans rfl)))))
theorem f_begin : A.flds.lookup ("begin" : Str) = none := f_none A (by decide +kernel) (by decide +kernel) (by decide +kernel) (by decide +kernel) (by decide +kernel) (by decide +kernel)
theorem f_has_tray : A.flds.lookup ("has_tray" : Str) = none := f_none A (by decide +kernel) (by decide +kernel) (by decide +kernel) (by decide +kernel) (by decide +kernel) (by decide +kernel)
theorem f_has_clerk : A.flds.lookup ("has_clerk" : Str) = none := f_none A (by decide +kernel) (by decide +kernel) (by decide +kernel) (by decide +kernel) (by decide +kernel) (by decide +kernel)
theorem f_home_of : A.flds.lookup ("home_of" : Str) = none := f_none A (by decide +kernel) (by decide +kernel) (by decide +kernel) (by decide +kernel) (by decide +kernel) (by decide +kernel)
theorem f_key_of : A.flds.lookup ("key_of" : Str) = none := f_none A (by decide +kernel) (by decide +kernel) (by decide +kernel) (by decide +kernel) (by decide +kernel) (by decide +kernel)
end
def cK (cards : List Vbenai.Card) (cs : List Addr) : List (Key × V) := (cards.zip cs).map fun q => (Sum.inl (q.1.number : Int), V.ref q.2)
def lK (lent : List (Nat × Nat)) : List (Key × V) := lent.map fun q => (Sum.inl (q.1 : Int), V.int (q.2 : Int))
/-- rows of rows: at each address its row -/
def Rows (H : Hp) (as : List Addr) (L : List (List V)) : Prop := as.length = L.length ∧ ∀ (i : Nat) (t : Addr) (l : List V), as[i]? = some t → L[i]? = some l → H t = some (.lst l)
structure RoomAt (C : Addr) (H : Hp) (a : Addr) (A : Ad) (r : Vbenai.Room) (log : List Vbenai.Event) : Prop where
  ob : H a = some (.ins C A.dx A.flds)
  dc : H A.cd = some (.dK (cK r.cards A.cs))
  cl : A.cs.length = r.cards.length
  ct : ∀ (i : Nat) (t : Addr) (x : Vbenai.Card), A.cs[i]? = some t → r.cards[i]? = some x → H t = some (.tup [.int (x.home : Int), .int x.key])
  dt : H A.td = some (.lst (A.ts.map V.ref))
  tt : Rows H A.ts (r.trays.map nv)
  dh : H A.hd = some (.lst (A.hs.map V.ref))
  hh : Rows H A.hs (r.hands.map nv)
  dl : H A.ld = some (.dK (lK r.lent))
  ds : H A.sd = some (.lst (nv r.lost))
  dj : H A.jd = some (.lst (A.js.map V.ref))
  jj : Rows H A.js (log.map fun e => (Vbenai.eventRow e).map V.int)
  nd : (a :: A.own).Nodup
/-- what was tracked and isn't the room's stands; what is the room's now was it, or is new -/
structure Fr (H : Hp) (a : Addr) (A : Ad) (H' : Hp) (A' : Ad) : Prop where
  km : ∀ b o, H b = some o → b ∉ a :: A.mut → H' b = some o
  nw : ∀ b ∈ A'.own, b ∈ a :: A.own ∨ H b = none
  nm : ∀ b ∈ A'.mut, b ∈ a :: A.mut ∨ H b = none
  dm : ∀ b, H b ≠ none → H' b ≠ none
theorem Fr.kp {H : Hp} {a : Addr} {A : Ad} {H' : Hp} {A' : Ad} (f : Fr H a A H' A') (b : Addr) (o : HO) (h : H b = some o) (n : b ∉ a :: A.own) : H' b = some o := f.km b o h fun m => n (mut_own' m)
theorem Same.dm {H H' : Hp} (k : Same H H') : ∀ b, H b ≠ none → H' b ≠ none := fun b h => by
  cases e : H b with
  | none => exact absurd e h
  | some o => rw [k b o e]; simp
theorem upd_dm {H : Hp} {x : Addr} {o : HO} : ∀ b, H b ≠ none → L2.upd H x o b ≠ none := fun b h => by
  by_cases e : b = x
  · rw [e, upd_same]; simp
  · rw [upd_ne e]; exact h
theorem Rows.mono {H H' : Hp} {as : List Addr} {L : List (List V)} (R : Rows H as L) (k : ∀ t ∈ as, H' t = H t) : Rows H' as L := ⟨R.1, fun i t l h1 h2 => by
  rw [k t (List.mem_of_getElem? h1)]
  exact R.2 i t l h1 h2⟩
theorem Rows.same {H H' : Hp} {as : List Addr} {L : List (List V)} (R : Rows H as L) (k : Same H H') : Rows H' as L := ⟨R.1, fun i t l h1 h2 => k _ _ (R.2 i t l h1 h2)⟩
theorem Rows.get {H : Hp} {as : List Addr} {L : List (List V)} (R : Rows H as L) {i : Nat} (h : i < L.length) : ∃ t l, as[i]? = some t ∧ L[i]? = some l ∧ H t = some (.lst l) := by
  have h2 : i < as.length := by rw [R.1]; exact h
  exact ⟨as[i], L[i], List.getElem?_eq_getElem h2, List.getElem?_eq_getElem h, R.2 i _ _ (List.getElem?_eq_getElem h2) (List.getElem?_eq_getElem h)⟩
/-- one row is written anew -/
theorem Rows.upd {H : Hp} {as : List Addr} {L : List (List V)} (R : Rows H as L) (nd : as.Nodup) {i : Nat} {t : Addr} (ht : as[i]? = some t) (l : List V) : Rows (L2.upd H t (.lst l)) as (L.set i l) := by
  refine ⟨by rw [List.length_set]; exact R.1, fun j u m h1 h2 => ?_⟩
  by_cases e : j = i
  · subst e
    rw [ht] at h1
    cases h1
    rw [upd_same]
    rw [List.getElem?_set_self (by rw [← R.1]; exact (List.getElem?_eq_some_iff.mp ht).1)] at h2
    cases h2
    rfl
  · rw [List.getElem?_set_ne (fun q => e q.symm)] at h2
    have n : u ≠ t := fun q => e (nd_ix nd h1 (q ▸ ht))
    rw [upd_ne n]
    exact R.2 j u m h1 h2
theorem RoomAt.same {C : Addr} {H H' : Hp} {a : Addr} {A : Ad} {r : Vbenai.Room} {log : List Vbenai.Event} (R : RoomAt C H a A r log) (k : Same H H') : RoomAt C H' a A r log :=
  ⟨k _ _ R.ob, k _ _ R.dc, R.cl, fun i t x h1 h2 => k _ _ (R.ct i t x h1 h2), k _ _ R.dt, R.tt.same k, k _ _ R.dh, R.hh.same k, k _ _ R.dl, k _ _ R.ds, k _ _ R.dj, R.jj.same k, R.nd⟩
theorem Fr.refl {H : Hp} {a : Addr} {A : Ad} : Fr H a A H A := ⟨fun _ _ h _ => h, fun b h => .inl (List.mem_cons_of_mem _ h), fun b h => .inl (List.mem_cons_of_mem _ h), fun _ h => h⟩
theorem Fr.same {H H' : Hp} {a : Addr} {A : Ad} (k : Same H H') : Fr H a A H' A := ⟨fun b o h _ => k b o h, fun b h => .inl (List.mem_cons_of_mem _ h), fun b h => .inl (List.mem_cons_of_mem _ h), Same.dm k⟩
theorem Fr.trans {H H1 H2 : Hp} {a : Addr} {A A1 A2 : Ad} (f : Fr H a A H1 A1) (g : Fr H1 a A1 H2 A2) : Fr H a A H2 A2 := by
  have out : ∀ b o, H b = some o → b ∉ a :: A.own → b ∉ a :: A1.own := fun b o h n m => by
    rcases List.mem_cons.mp m with e | m
    · exact n (by rw [e]; exact List.mem_cons_self)
    · rcases f.nw b m with q | q
      · exact n q
      · rw [h] at q; cases q
  have outm : ∀ b o, H b = some o → b ∉ a :: A.mut → b ∉ a :: A1.mut := fun b o h n m => by
    rcases List.mem_cons.mp m with e | m
    · exact n (by rw [e]; exact List.mem_cons_self)
    · rcases f.nm b m with q | q
      · exact n q
      · rw [h] at q; cases q
  refine ⟨fun b o h n => g.km b o (f.km b o h n) (outm b o h n), fun b m => ?_, fun b m => ?_, fun b h => g.dm b (f.dm b h)⟩
  · by_cases q : b ∈ a :: A.own
    · exact .inl q
    · right
      cases hb : H b with
      | none => rfl
      | some o =>
        have n1 := out b o hb q
        have h1 := f.kp b o hb q
        rcases g.nw b m with z | z
        · exact absurd z n1
        · rw [h1] at z; cases z
  · by_cases q : b ∈ a :: A.mut
    · exact .inl q
    · right
      cases hb : H b with
      | none => rfl
      | some o =>
        have n1 := outm b o hb q
        have h1 := f.km b o hb q
        rcases g.nm b m with z | z
        · exact absurd z n1
        · rw [h1] at z; cases z
/-- a thing that isn't the room's isn't it behind either -/
theorem Fr.out {H H' : Hp} {a : Addr} {A A' : Ad} (f : Fr H a A H' A') {b : Addr} {o : HO} (h : H b = some o) (n : b ∉ a :: A.own) : b ∉ a :: A'.own := fun m => by
  rcases List.mem_cons.mp m with e | m
  · exact n (by rw [e]; exact List.mem_cons_self)
  · rcases f.nw b m with q | q
    · exact n q
    · rw [h] at q; cases q

/-! ### places in the room's list of addresses -/
section
variable {a : Addr} {A : Ad}
theorem ne_at {l : List Addr} (nd : l.Nodup) {i j : Nat} {x y : Addr} (h1 : l[i]? = some x) (h2 : l[j]? = some y) (h : i ≠ j) : x ≠ y := fun e => h (nd_ix nd h1 (e ▸ h2))
theorem p_ts {i : Nat} {t : Addr} (h : A.ts[i]? = some t) : (a :: A.own)[7 + i]? = some t := by
  show (a :: A.cd :: A.td :: A.hd :: A.ld :: A.sd :: A.jd :: (A.ts ++ (A.hs ++ A.js)))[7 + i]? = some t
  rw [Nat.add_comm]
  show (A.ts ++ (A.hs ++ A.js))[i]? = some t
  rw [List.getElem?_append_left (List.getElem?_eq_some_iff.mp h).1]
  exact h
theorem p_hs {i : Nat} {t : Addr} (h : A.hs[i]? = some t) : (a :: A.own)[7 + (A.ts.length + i)]? = some t := by
  show (a :: A.cd :: A.td :: A.hd :: A.ld :: A.sd :: A.jd :: (A.ts ++ (A.hs ++ A.js)))[7 + (A.ts.length + i)]? = some t
  rw [Nat.add_comm]
  show (A.ts ++ (A.hs ++ A.js))[A.ts.length + i]? = some t
  rw [List.getElem?_append_right (Nat.le_add_right ..), Nat.add_sub_cancel_left, List.getElem?_append_left (List.getElem?_eq_some_iff.mp h).1]
  exact h
theorem p_js {i : Nat} {t : Addr} (h : A.js[i]? = some t) : (a :: A.own)[7 + (A.ts.length + (A.hs.length + i))]? = some t := by
  show (a :: A.cd :: A.td :: A.hd :: A.ld :: A.sd :: A.jd :: (A.ts ++ (A.hs ++ A.js)))[7 + (A.ts.length + (A.hs.length + i))]? = some t
  rw [Nat.add_comm]
  show (A.ts ++ (A.hs ++ A.js))[A.ts.length + (A.hs.length + i)]? = some t
  rw [List.getElem?_append_right (Nat.le_add_right ..), Nat.add_sub_cancel_left, List.getElem?_append_right (Nat.le_add_right ..), Nat.add_sub_cancel_left]
  exact h
theorem nd_ts (nd : (a :: A.own).Nodup) : A.ts.Nodup := by
  have h := (List.nodup_cons.mp nd).2
  unfold Ad.own at h
  exact (List.nodup_append.mp (List.nodup_append.mp h).2.1).1
theorem nd_hs (nd : (a :: A.own).Nodup) : A.hs.Nodup := by
  have h := (List.nodup_cons.mp nd).2
  unfold Ad.own at h
  exact (List.nodup_append.mp (List.nodup_append.mp (List.nodup_append.mp h).2.1).2.1).1
end
/-- an address of a place m of the room is written: rows elsewhere stand -/
theorem Rows.off {H : Hp} {as : List Addr} {L : List (List V)} (R : Rows H as L) {x : Addr} {o : HO} (h : ∀ t ∈ as, t ≠ x) : Rows (L2.upd H x o) as L := R.mono fun t m => upd_ne (h t m)
section
variable {C : Addr} {H : Hp} {a : Addr} {A : Ad} {r : Vbenai.Room} {log : List Vbenai.Event}
theorem off_ts (nd : (a :: A.own).Nodup) {m : Nat} {x : Addr} (hx : (a :: A.own)[m]? = some x) (h : m < 7 ∨ 7 + A.ts.length ≤ m) : ∀ t ∈ A.ts, t ≠ x := fun t ht => by
  obtain ⟨i, hi⟩ := List.getElem?_of_mem ht
  have := (List.getElem?_eq_some_iff.mp hi).1
  exact ne_at nd (p_ts hi) hx (by omega)
theorem off_hs (nd : (a :: A.own).Nodup) {m : Nat} {x : Addr} (hx : (a :: A.own)[m]? = some x) (h : m < 7 + A.ts.length ∨ 7 + (A.ts.length + A.hs.length) ≤ m) : ∀ t ∈ A.hs, t ≠ x := fun t ht => by
  obtain ⟨i, hi⟩ := List.getElem?_of_mem ht
  have := (List.getElem?_eq_some_iff.mp hi).1
  exact ne_at nd (p_hs hi) hx (by omega)
theorem off_js (nd : (a :: A.own).Nodup) {m : Nat} {x : Addr} (hx : (a :: A.own)[m]? = some x) (h : m < 7 + (A.ts.length + A.hs.length)) : ∀ t ∈ A.js, t ≠ x := fun t ht => by
  obtain ⟨i, hi⟩ := List.getElem?_of_mem ht
  have := (List.getElem?_eq_some_iff.mp hi).1
  exact ne_at nd (p_js hi) hx (by omega)
/-- a card's pair is no list, no dict -/
theorem RoomAt.off_ct (R : RoomAt C H a A r log) {x : Addr} {u : HO} (hx : H x = some u) (hu : ∀ xs, u ≠ .tup xs) (o : HO) : ∀ (i : Nat) (t : Addr) (y : Vbenai.Card), A.cs[i]? = some t → r.cards[i]? = some y → L2.upd H x o t = some (.tup [.int (y.home : Int), .int y.key]) := fun i t y h1 h2 => by
  have e := R.ct i t y h1 h2
  rw [upd_ne (ne_of e hx fun q => hu _ q.symm)]
  exact e
theorem map_set_nv (L : List (List Nat)) (i : Nat) (l : List Nat) : (L.set i l).map nv = (L.map nv).set i (nv l) := List.map_set
/-- a tray is written anew -/
theorem RoomAt.tray (R : RoomAt C H a A r log) {i : Nat} {t : Addr} (ht : A.ts[i]? = some t) (l : List Nat) : RoomAt C (L2.upd H t (.lst (nv l))) a A { r with trays := r.trays.set i l } log := by
  have pt := p_ts (a := a) ht
  have hi : i < A.ts.length := (List.getElem?_eq_some_iff.mp ht).1
  obtain ⟨t', l0, h1, h2, h3⟩ := R.tt.get (i := i) (by rw [← R.tt.1]; exact hi)
  rw [ht] at h1
  cases h1
  have n : ∀ {m : Nat} {x : Addr}, (a :: A.own)[m]? = some x → m < 7 → x ≠ t := fun hx hm => ne_at R.nd hx pt (by omega)
  refine ⟨by rw [upd_ne (n (m := 0) rfl (by decide))]; exact R.ob, by rw [upd_ne (n (m := 1) rfl (by decide))]; exact R.dc, R.cl, R.off_ct h3 (fun xs q => by cases q) _, by rw [upd_ne (n (m := 2) rfl (by decide))]; exact R.dt, ?_,
    by rw [upd_ne (n (m := 3) rfl (by decide))]; exact R.dh, R.hh.off (off_hs R.nd pt (by omega)), by rw [upd_ne (n (m := 4) rfl (by decide))]; exact R.dl, by rw [upd_ne (n (m := 5) rfl (by decide))]; exact R.ds,
    by rw [upd_ne (n (m := 6) rfl (by decide))]; exact R.dj, R.jj.off (off_js R.nd pt (by omega)), R.nd⟩
  simp only [map_set_nv]
  exact R.tt.upd (nd_ts R.nd) ht (nv l)
theorem RoomAt.hand (R : RoomAt C H a A r log) {i : Nat} {t : Addr} (ht : A.hs[i]? = some t) (l : List Nat) : RoomAt C (L2.upd H t (.lst (nv l))) a A { r with hands := r.hands.set i l } log := by
  have pt := p_hs (a := a) ht
  have hi : i < A.hs.length := (List.getElem?_eq_some_iff.mp ht).1
  obtain ⟨t', l0, h1, h2, h3⟩ := R.hh.get (i := i) (by rw [← R.hh.1]; exact hi)
  rw [ht] at h1
  cases h1
  have n : ∀ {m : Nat} {x : Addr}, (a :: A.own)[m]? = some x → m < 7 → x ≠ t := fun hx hm => ne_at R.nd hx pt (by omega)
  refine ⟨by rw [upd_ne (n (m := 0) rfl (by decide))]; exact R.ob, by rw [upd_ne (n (m := 1) rfl (by decide))]; exact R.dc, R.cl, R.off_ct h3 (fun xs q => by cases q) _, by rw [upd_ne (n (m := 2) rfl (by decide))]; exact R.dt,
    R.tt.off (off_ts R.nd pt (by omega)), by rw [upd_ne (n (m := 3) rfl (by decide))]; exact R.dh, ?_, by rw [upd_ne (n (m := 4) rfl (by decide))]; exact R.dl, by rw [upd_ne (n (m := 5) rfl (by decide))]; exact R.ds,
    by rw [upd_ne (n (m := 6) rfl (by decide))]; exact R.dj, R.jj.off (off_js R.nd pt (by omega)), R.nd⟩
  simp only [map_set_nv]
  exact R.hh.upd (nd_hs R.nd) ht (nv l)
theorem RoomAt.setLost (R : RoomAt C H a A r log) (l : List Nat) : RoomAt C (L2.upd H A.sd (.lst (nv l))) a A { r with lost := l } log := by
  have pt : (a :: A.own)[5]? = some A.sd := rfl
  have n : ∀ {m : Nat} {x : Addr}, (a :: A.own)[m]? = some x → m ≠ 5 → x ≠ A.sd := fun hx hm => ne_at R.nd hx pt hm
  exact ⟨by rw [upd_ne (n (m := 0) rfl (by decide))]; exact R.ob, by rw [upd_ne (n (m := 1) rfl (by decide))]; exact R.dc, R.cl, R.off_ct R.ds (fun xs q => by cases q) _, by rw [upd_ne (n (m := 2) rfl (by decide))]; exact R.dt,
    R.tt.off (off_ts R.nd pt (by omega)), by rw [upd_ne (n (m := 3) rfl (by decide))]; exact R.dh, R.hh.off (off_hs R.nd pt (by omega)), by rw [upd_ne (n (m := 4) rfl (by decide))]; exact R.dl, upd_same,
    by rw [upd_ne (n (m := 6) rfl (by decide))]; exact R.dj, R.jj.off (off_js R.nd pt (by omega)), R.nd⟩
theorem RoomAt.setLent (R : RoomAt C H a A r log) (l : List (Nat × Nat)) : RoomAt C (L2.upd H A.ld (.dK (lK l))) a A { r with lent := l } log := by
  have pt : (a :: A.own)[4]? = some A.ld := rfl
  have n : ∀ {m : Nat} {x : Addr}, (a :: A.own)[m]? = some x → m ≠ 4 → x ≠ A.ld := fun hx hm => ne_at R.nd hx pt hm
  exact ⟨by rw [upd_ne (n (m := 0) rfl (by decide))]; exact R.ob, by rw [upd_ne (n (m := 1) rfl (by decide))]; exact R.dc, R.cl, R.off_ct R.dl (fun xs q => by cases q) _, by rw [upd_ne (n (m := 2) rfl (by decide))]; exact R.dt,
    R.tt.off (off_ts R.nd pt (by omega)), by rw [upd_ne (n (m := 3) rfl (by decide))]; exact R.dh, R.hh.off (off_hs R.nd pt (by omega)), upd_same, by rw [upd_ne (n (m := 5) rfl (by decide))]; exact R.ds,
    by rw [upd_ne (n (m := 6) rfl (by decide))]; exact R.dj, R.jj.off (off_js R.nd pt (by omega)), R.nd⟩
theorem cK_snoc (cards : List Vbenai.Card) (cs : List Addr) (x : Vbenai.Card) (t : Addr) (h : cs.length = cards.length) : cK (cards ++ [x]) (cs ++ [t]) = cK cards cs ++ [(Sum.inl (x.number : Int), V.ref t)] := by
  unfold cK
  rw [List.zip_append h.symm, List.map_append]
  rfl
/-- a card more: its pair stands at p, which was free -/
theorem RoomAt.addCard (R : RoomAt C H a A r log) (x : Vbenai.Card) {p : Addr} (hp : H p = none) :
    RoomAt C (L2.upd (L2.upd H p (.tup [.int (x.home : Int), .int x.key])) A.cd (.dK (cK (r.cards ++ [x]) (A.cs ++ [p])))) a { A with cs := A.cs ++ [p] } { r with cards := r.cards ++ [x] } log := by
  have k : Same H (L2.upd H p (.tup [.int (x.home : Int), .int x.key])) := fun b o e => by rw [upd_ne (ne_of_none e hp)]; exact e
  have R1 := R.same k
  have hpp : L2.upd H p (.tup [.int (x.home : Int), .int x.key]) p = some (.tup [.int (x.home : Int), .int x.key]) := upd_same
  generalize L2.upd H p (.tup [.int (x.home : Int), .int x.key]) = H1 at R1 hpp k
  have pt : (a :: A.own)[1]? = some A.cd := rfl
  have n : ∀ {m : Nat} {y : Addr}, (a :: A.own)[m]? = some y → m ≠ 1 → y ≠ A.cd := fun hx hm => ne_at R.nd hx pt hm
  have hpc : p ≠ A.cd := ne_of hpp R1.dc (by intro q; cases q)
  refine ⟨by rw [upd_ne (n (m := 0) rfl (by decide))]; exact R1.ob, upd_same, by simp [R.cl], fun i t y h1 h2 => ?_, by rw [upd_ne (n (m := 2) rfl (by decide))]; exact R1.dt,
    R1.tt.off (off_ts R.nd pt (by omega)), by rw [upd_ne (n (m := 3) rfl (by decide))]; exact R1.dh, R1.hh.off (off_hs R.nd pt (by omega)), by rw [upd_ne (n (m := 4) rfl (by decide))]; exact R1.dl, by rw [upd_ne (n (m := 5) rfl (by decide))]; exact R1.ds,
    by rw [upd_ne (n (m := 6) rfl (by decide))]; exact R1.dj, R1.jj.off (off_js R.nd pt (by omega)), R.nd⟩
  by_cases hi : i < r.cards.length
  · have h1' : A.cs[i]? = some t := by rw [← h1]; exact (List.getElem?_append_left (by rw [R.cl]; exact hi)).symm
    have h2' : r.cards[i]? = some y := by rw [← h2]; exact (List.getElem?_append_left hi).symm
    exact R1.off_ct R1.dc (fun xs q => by cases q) _ i t y h1' h2'
  · have e1 : (A.cs ++ [p])[i]? = some t := h1
    have e2 : (r.cards ++ [x])[i]? = some y := h2
    have hl : i = r.cards.length := by
      have := (List.getElem?_eq_some_iff.mp e2).1
      rw [List.length_append] at this
      simp at this
      omega
    subst hl
    rw [List.getElem?_append_right (Nat.le_refl _), Nat.sub_self] at e2
    rw [← R.cl, List.getElem?_append_right (Nat.le_refl _), Nat.sub_self] at e1
    cases e1
    cases e2
    rw [upd_ne hpc]
    exact hpp
/-- a step more in the journal: its row stands at p, which isn't the room's -/
theorem RoomAt.addStep (R : RoomAt C H a A r log) (e : Vbenai.Event) {p : Addr} (hp : H p = some (.lst ((Vbenai.eventRow e).map V.int))) (np : p ∉ a :: A.own) :
    RoomAt C (L2.upd H A.jd (.lst ((A.js ++ [p]).map V.ref))) a { A with js := A.js ++ [p] } r (log ++ [e]) := by
  have pt : (a :: A.own)[6]? = some A.jd := rfl
  have n : ∀ {m : Nat} {x : Addr}, (a :: A.own)[m]? = some x → m ≠ 6 → x ≠ A.jd := fun hx hm => ne_at R.nd hx pt hm
  have npj : p ≠ A.jd := fun q => np (by rw [q]; exact List.mem_of_getElem? pt)
  refine ⟨by rw [upd_ne (n (m := 0) rfl (by decide))]; exact R.ob, by rw [upd_ne (n (m := 1) rfl (by decide))]; exact R.dc, R.cl, R.off_ct R.dj (fun xs q => by cases q) _, by rw [upd_ne (n (m := 2) rfl (by decide))]; exact R.dt,
    R.tt.off (off_ts R.nd pt (by omega)), by rw [upd_ne (n (m := 3) rfl (by decide))]; exact R.dh, R.hh.off (off_hs R.nd pt (by omega)), by rw [upd_ne (n (m := 4) rfl (by decide))]; exact R.dl, by rw [upd_ne (n (m := 5) rfl (by decide))]; exact R.ds,
    upd_same, ?_, ?_⟩
  · have J := R.jj.off (off_js R.nd pt (by omega)) (o := .lst ((A.js ++ [p]).map V.ref))
    have jl := R.jj.1
    rw [List.length_map] at jl
    refine ⟨by simp [jl], fun i t l h1 h2 => ?_⟩
    have e1 : (A.js ++ [p])[i]? = some t := h1
    rw [List.map_append] at h2
    by_cases hi : i < log.length
    · rw [List.getElem?_append_left (by rw [jl]; exact hi)] at e1
      rw [List.getElem?_append_left (by rw [List.length_map]; exact hi)] at h2
      exact J.2 i t l e1 h2
    · have hl : i = log.length := by
        have := (List.getElem?_eq_some_iff.mp e1).1
        simp at this
        omega
      subst hl
      rw [← jl, List.getElem?_append_right (Nat.le_refl _), Nat.sub_self] at e1
      rw [List.getElem?_append_right (by rw [List.length_map]; exact Nat.le_refl _), List.length_map, Nat.sub_self] at h2
      cases e1
      cases h2
      rw [upd_ne npj]
      exact hp
  · have e : (a :: ({ A with js := A.js ++ [p] } : Ad).own) = (a :: A.own) ++ [p] := by
      simp [Ad.own]
    rw [e, List.nodup_append]
    refine ⟨R.nd, by simp, fun x hx y hy => ?_⟩
    simp only [List.mem_cons, List.not_mem_nil, or_false] at hy
    subst hy
    intro q
    subst q
    exact np hx
end
end Cc

set_option Elab.async false
set_option linter.all false
set_option maxRecDepth 100000
set_option maxHeartbeats 4000000
namespace Cc
open PySem PySem.Spec PyProof.Rows L2
open VbenCore (isBetween)

/-- what the top has written: the class, the names of Python's own, the numbers -/
structure Txt (K : PySem.W.Frag) (mg : Str → Option Value) (C : Addr) : Prop where
  cl : Cls K C
  nCards : NoAttr K C "cards"
  nTrays : NoAttr K C "trays"
  nHands : NoAttr K C "hands"
  nLent : NoAttr K C "lent"
  nLost : NoAttr K C "lost"
  nJournal : NoAttr K C "journal"
  len : mg "len" = none
  range : mg "range" = none
  enum : mg "enumerate" = none
  list : mg "list" = none
  all : mg "all" = none
  sorted : mg "sorted" = none
  max : mg "max" = none
  zip : mg "zip" = none
  sum : mg "sum" = none
  set : mg "set" = none
  num : ∀ q ∈ gints, ∃ tk, mg q.1 = some (.int q.2 tk)
  args : ∃ ad, mg "ARGUMENTS" = some (.ref ad) ∧ ∀ H, SqT K H ad (args.map (He.Dv.v K))

/-! ### ranges -/
def spSize : Sp := fun vs H Q _ => ∃ t c : Int, vs = [.int t, .int c] ∧ Q (.bl (isBetween t 1 4 && isBetween c 1 3)) H
def spIn (lo hi : Int) : Sp := fun vs H Q _ => ∃ n : Int, vs = [.int n] ∧ Q (.bl (isBetween n lo hi)) H
theorem in_p {lo hi n : Int} {H : Hp} : SpP (spIn lo hi) [.int n] H (.bl (isBetween n lo hi)) := fun Q E q => ⟨n, rfl, q⟩
theorem size_p {t c : Int} {H : Hp} : SpP spSize [.int t, .int c] H (.bl (isBetween t 1 4 && isBetween c 1 3)) := fun Q E q => ⟨t, c, rfl, q⟩
section
variable {P : Program} {w : World} {K : PySem.W.Frag} {mg : Str → Option Value} {base : Heap} {C : Addr}
theorem sc_size : FnScope ["trays", "clerks"] ["trays", "clerks"] (defScope (top 6)) := ⟨rfl, rfl, rfl, by decide +kernel, rfl, by decide +kernel, by decide +kernel⟩
theorem g_size (D : DefAt K mg "is_room_size" (top 6)) : FnG P w K mg base "is_room_size" 1 ["trays", "clerks"] spSize := by
  refine D.fn sc_size (fun _ _ _ _ _ _ us hl => match us, hl with | [_, _], _ => rfl) (fun vs H Q E h => ?_) (fun f cdv A outer s H vs Q E hr h => ?_)
  · obtain ⟨t, c, rfl, _⟩ := h
    rfl
  · obtain ⟨t, c, rfl, k⟩ := h
    refine ⟨_, pss_one (ps_ret (pe_and (pe_chain op_le op_le pe_int (pv 0) pe_int) (pe_one (pe_chain op_le op_le pe_int (pv 1) pe_int)))), ?_⟩
    exact st_ret (val_andV (val_btw val_c (val_var rfl) val_c) (val_btw val_c (val_var rfl) val_c)) k
theorem sc_n : FnScope ["n"] ["n"] (defScope (top 7)) := ⟨rfl, rfl, rfl, by decide +kernel, rfl, by decide +kernel, by decide +kernel⟩
theorem g_number (D : DefAt K mg "is_card_number" (top 7)) : FnG P w K mg base "is_card_number" 1 ["n"] (spIn 0 999) := by
  refine D.fn sc_n (fun _ _ _ _ _ _ us hl => match us, hl with | [_], _ => rfl) (fun vs H Q E h => ?_) (fun f cdv A outer s H vs Q E hr h => ?_)
  · obtain ⟨t, rfl, _⟩ := h
    rfl
  · obtain ⟨t, rfl, k⟩ := h
    exact ⟨_, pss_one (ps_ret (pe_chain op_le op_le pe_int (pv 0) pe_int)), st_ret (val_btw val_c (val_var rfl) val_c) k⟩
theorem val_neg {σ : L2.St} {H : Hp} {i : Int} : Val (tUn (rU fun i => .int (-i)) (tC (.int i))) σ H (.int (-i)) := fun Q q => ⟨i, rfl, q⟩
theorem sc_key : FnScope ["key"] ["key"] (defScope (top 8)) := ⟨rfl, rfl, rfl, by decide +kernel, rfl, by decide +kernel, by decide +kernel⟩
theorem g_key (D : DefAt K mg "is_key" (top 8)) : FnG P w K mg base "is_key" 1 ["key"] (spIn (-1000) 1000) := by
  refine D.fn sc_key (fun _ _ _ _ _ _ us hl => match us, hl with | [_], _ => rfl) (fun vs H Q E h => ?_) (fun f cdv A outer s H vs Q E hr h => ?_)
  · obtain ⟨t, rfl, _⟩ := h
    rfl
  · obtain ⟨t, rfl, k⟩ := h
    exact ⟨_, pss_one (ps_ret (pe_chain op_le op_le (pe_un un_neg pe_int) (pv 0) pe_int)), st_ret (val_btw val_neg (val_var rfl) val_c) k⟩
theorem sc_p : FnScope ["p"] ["p"] (defScope (top 9)) := ⟨rfl, rfl, rfl, by decide +kernel, rfl, by decide +kernel, by decide +kernel⟩
theorem g_place (D : DefAt K mg "is_place" (top 9)) : FnG P w K mg base "is_place" 1 ["p"] (spIn 0 40) := by
  refine D.fn sc_p (fun _ _ _ _ _ _ us hl => match us, hl with | [_], _ => rfl) (fun vs H Q E h => ?_) (fun f cdv A outer s H vs Q E hr h => ?_)
  · obtain ⟨t, rfl, _⟩ := h
    rfl
  · obtain ⟨t, rfl, k⟩ := h
    exact ⟨_, pss_one (ps_ret (pe_chain op_le op_le pe_int (pv 0) pe_int)), st_ret (val_btw val_c (val_var rfl) val_c) k⟩
theorem sc_h : FnScope ["h"] ["h"] (defScope (top 10)) := ⟨rfl, rfl, rfl, by decide +kernel, rfl, by decide +kernel, by decide +kernel⟩
theorem g_hplace (D : DefAt K mg "is_hand_place" (top 10)) : FnG P w K mg base "is_hand_place" 1 ["h"] (spIn 0 2) := by
  refine D.fn sc_h (fun _ _ _ _ _ _ us hl => match us, hl with | [_], _ => rfl) (fun vs H Q E h => ?_) (fun f cdv A outer s H vs Q E hr h => ?_)
  · obtain ⟨t, rfl, _⟩ := h
    rfl
  · obtain ⟨t, rfl, k⟩ := h
    exact ⟨_, pss_one (ps_ret (pe_chain op_le op_le pe_int (pv 0) pe_int)), st_ret (val_btw val_c (val_var rfl) val_c) k⟩
theorem sc_who : FnScope ["who"] ["who"] (defScope (top 11)) := ⟨rfl, rfl, rfl, by decide +kernel, rfl, by decide +kernel, by decide +kernel⟩
theorem g_who (D : DefAt K mg "is_borrower" (top 11)) : FnG P w K mg base "is_borrower" 1 ["who"] (spIn 0 9) := by
  refine D.fn sc_who (fun _ _ _ _ _ _ us hl => match us, hl with | [_], _ => rfl) (fun vs H Q E h => ?_) (fun f cdv A outer s H vs Q E hr h => ?_)
  · obtain ⟨t, rfl, _⟩ := h
    rfl
  · obtain ⟨t, rfl, k⟩ := h
    exact ⟨_, pss_one (ps_ret (pe_chain op_le op_le pe_int (pv 0) pe_int)), st_ret (val_btw val_c (val_var rfl) val_c) k⟩

/-! ### the room's methods that ask -/
def isTr (r : Vbenai.Room) (t : Int) : Bool := isBetween t 0 ((r.trays.length : Int) - 1)
def isCl (r : Vbenai.Room) (c : Int) : Bool := isBetween c 0 ((r.hands.length : Int) - 1)
theorem btw_lt {t : Int} {n : Nat} : (decide (0 ≤ t) && decide (t < (n : Int))) = isBetween t 0 ((n : Int) - 1) := by
  unfold isBetween
  refine congrArg (_ && ·) ?_
  by_cases h : t < (n : Int)
  · rw [decide_eq_true h, decide_eq_true (by omega)]
  · rw [decide_eq_false h, decide_eq_false (by omega)]
def spHasTray (C : Addr) : Sp := fun vs H Q _ => ∃ (a : Addr) (A : Ad) (r : Vbenai.Room) (log : List Vbenai.Event) (t : Int), vs = [.ref a, .int t] ∧ RoomAt C H a A r log ∧ Q (.bl (isTr r t)) H
def spHasClerk (C : Addr) : Sp := fun vs H Q _ => ∃ (a : Addr) (A : Ad) (r : Vbenai.Room) (log : List Vbenai.Event) (c : Int), vs = [.ref a, .int c] ∧ RoomAt C H a A r log ∧ Q (.bl (isCl r c)) H
theorem len_refs (l : List Addr) : (l.map V.ref).length = l.length := List.length_map ..
theorem sc_ht : FnScope ["self", "t"] ["self", "t"] (defScope (inClass (top 12) 2)) := ⟨rfl, rfl, rfl, by decide +kernel, rfl, by decide +kernel, by decide +kernel⟩
theorem m_has_tray (D : MetAt K C "has_tray" "Room.has_tray" (inClass (top 12) 2)) (T : Txt K mg C) : MtG P w K mg base C "has_tray" 1 ["self", "t"] (spHasTray C) := by
  refine D.mt sc_ht (fun _ _ _ _ _ _ us hl => match us, hl with | [_, _], _ => rfl) (fun vs H Q E h => ?_) (fun f cdv A outer s H vs Q E hr h => ?_)
  · obtain ⟨a, A, r, log, t, rfl, _⟩ := h
    rfl
  · obtain ⟨a, A, r, log, t, rfl, R, k⟩ := h
    refine ⟨_, pss_one (ps_ret (pe_chain op_le op_lt pe_int (pv 1) (pe_callB call_len_seq (by rfl) T.len PySem.boot_len (pa_cons (pe_fld (pv 0) rfl) pa_nil)))), ?_⟩
    refine st_ret (v := .bl (isTr r t)) ?_ k
    have e : r.trays.length = (A.ts.map V.ref).length := by rw [len_refs, R.tt.1, List.length_map]
    unfold isTr
    rw [e, ← btw_lt]
    exact val_chain val_c (val_var rfl) (val_cb (va_1 (val_fld (val_var rfl) R.ob T.cl T.nTrays (f_trays A))) fun Q q => ⟨A.td, _, rfl, .inl (SqL.of R.dt), q⟩) (fun Q q => ⟨0, t, rfl, rfl, q⟩) (fun Q q => ⟨t, _, rfl, rfl, q⟩)
theorem sc_hc : FnScope ["self", "c"] ["self", "c"] (defScope (inClass (top 12) 3)) := ⟨rfl, rfl, rfl, by decide +kernel, rfl, by decide +kernel, by decide +kernel⟩
theorem m_has_clerk (D : MetAt K C "has_clerk" "Room.has_clerk" (inClass (top 12) 3)) (T : Txt K mg C) : MtG P w K mg base C "has_clerk" 1 ["self", "c"] (spHasClerk C) := by
  refine D.mt sc_hc (fun _ _ _ _ _ _ us hl => match us, hl with | [_, _], _ => rfl) (fun vs H Q E h => ?_) (fun f cdv A outer s H vs Q E hr h => ?_)
  · obtain ⟨a, A, r, log, t, rfl, _⟩ := h
    rfl
  · obtain ⟨a, A, r, log, t, rfl, R, k⟩ := h
    refine ⟨_, pss_one (ps_ret (pe_chain op_le op_lt pe_int (pv 1) (pe_callB call_len_seq (by rfl) T.len PySem.boot_len (pa_cons (pe_fld (pv 0) rfl) pa_nil)))), ?_⟩
    refine st_ret (v := .bl (isCl r t)) ?_ k
    have e : r.hands.length = (A.hs.map V.ref).length := by rw [len_refs, R.hh.1, List.length_map]
    unfold isCl
    rw [e, ← btw_lt]
    exact val_chain val_c (val_var rfl) (val_cb (va_1 (val_fld (val_var rfl) R.ob T.cl T.nHands (f_hands A))) fun Q q => ⟨A.hd, _, rfl, .inl (SqL.of R.dh), q⟩) (fun Q q => ⟨0, t, rfl, rfl, q⟩) (fun Q q => ⟨t, _, rfl, rfl, q⟩)
/-- home_of, key_of: the card's pair at a place; the dict may be walked meanwhile -/
def spPart (C : Addr) (j : Nat) : Sp := fun vs H Q _ => ∃ (a dx d t : Addr) (fs : List (Str × V)) (n : Int) (xs : List V) (v : V), vs = [.ref a, .int n] ∧ H a = some (.ins C dx fs) ∧ fs.lookup ("cards" : Str) = some (.ref d) ∧ DGet H d (.int n) (some (.ref t)) ∧ H t = some (.tup xs) ∧ xs[j]? = some v ∧ Q v H
theorem sc_home : FnScope ["self", "n"] ["self", "n"] (defScope (inClass (top 12) 4)) := ⟨rfl, rfl, rfl, by decide +kernel, rfl, by decide +kernel, by decide +kernel⟩
theorem m_home (D : MetAt K C "home_of" "Room.home_of" (inClass (top 12) 4)) (T : Txt K mg C) : MtG P w K mg base C "home_of" 1 ["self", "n"] (spPart C 0) := by
  refine D.mt sc_home (fun _ _ _ _ _ _ us hl => match us, hl with | [_, _], _ => rfl) (fun vs H Q E h => ?_) (fun f cdv A outer s H vs Q E hr h => ?_)
  · obtain ⟨_, _, _, _, _, _, _, _, rfl, _⟩ := h
    rfl
  · obtain ⟨a, dx, d, t, fs, n, xs, v, rfl, h1, h2, h3, h4, h5, k⟩ := h
    refine ⟨_, pss_one (ps_ret (pe_ix ix_tup (pe_dget (hu_of hr) (pe_fld (pv 0) rfl) (pv 1) (fun _ _ => rfl)) pe_int (fun _ _ => rfl))), ?_⟩
    exact st_ret (val_ixT (j := 0) (val_dget (val_fld (val_var rfl) h1 T.cl T.nCards h2) (val_var rfl) h3) val_c (SqT.of h4) rfl h5) k
theorem sc_keyof : FnScope ["self", "n"] ["self", "n"] (defScope (inClass (top 12) 5)) := ⟨rfl, rfl, rfl, by decide +kernel, rfl, by decide +kernel, by decide +kernel⟩
theorem m_key (D : MetAt K C "key_of" "Room.key_of" (inClass (top 12) 5)) (T : Txt K mg C) : MtG P w K mg base C "key_of" 1 ["self", "n"] (spPart C 1) := by
  refine D.mt sc_keyof (fun _ _ _ _ _ _ us hl => match us, hl with | [_, _], _ => rfl) (fun vs H Q E h => ?_) (fun f cdv A outer s H vs Q E hr h => ?_)
  · obtain ⟨_, _, _, _, _, _, _, _, rfl, _⟩ := h
    rfl
  · obtain ⟨a, dx, d, t, fs, n, xs, v, rfl, h1, h2, h3, h4, h5, k⟩ := h
    refine ⟨_, pss_one (ps_ret (pe_ix ix_tup (pe_dget (hu_of hr) (pe_fld (pv 0) rfl) (pv 1) (fun _ _ => rfl)) pe_int (fun _ _ => rfl))), ?_⟩
    exact st_ret (val_ixT (j := 1) (val_dget (val_fld (val_var rfl) h1 T.cl T.nCards h2) (val_var rfl) h3) val_c (SqT.of h4) rfl h5) k
end
end Cc

set_option Elab.async false
set_option linter.all false
set_option maxRecDepth 100000
set_option maxHeartbeats 4000000
namespace Cc
open PySem PySem.Spec PyProof.Rows L2
open VbenCore (isBetween)

theorem put_here {f : Str} {v x : V} {r : List (Str × V)} : putF f v ((f, x) :: r) = (f, v) :: r := if_pos rfl
theorem put_past {f g : Str} {v x : V} {r : List (Str × V)} (h : ¬ g = f) : putF f v ((g, x) :: r) = (g, x) :: putF f v r := if_neg h
theorem putF_len (f : Str) (v : V) : ∀ fs : List (Str × V), (putF f v fs).length ≤ fs.length + 1
  | [] => by simp [putF]
  | (g, x) :: r => by
    have ih := putF_len f v r
    by_cases h : g = f
    · subst h; rw [put_here]; simp
    · rw [put_past h]; simp only [List.length_cons]; omega
/-- all but a stands -/
def Kp (a : Addr) (H H' : Hp) : Prop := ∀ b o, H b = some o → b ≠ a → H' b = some o
theorem Kp.trans {a : Addr} {H H1 H2 : Hp} (f : Kp a H H1) (g : Kp a H1 H2) : Kp a H H2 := fun b o h n => g b o (f b o h n) n
theorem Kp.same {a : Addr} {H H1 : Hp} (f : Same H H1) : Kp a H H1 := fun b o h _ => f b o h
theorem Kp.at_ {a : Addr} {H : Hp} {o : HO} : Kp a H (upd H a o) := fun b u h n => by rw [upd_ne n]; exact h
theorem same_new {H : Hp} {p : Addr} {o : HO} (hp : H p = none) : Same H (upd H p o) := fun b u e => by rw [upd_ne (ne_of_none e hp)]; exact e
theorem Kp.free {a : Addr} {H H1 : Hp} (f : Kp a H H1) {p : Addr} (h : H1 p = none) (n : p ≠ a) : H p = none := by
  cases e : H p with
  | none => rfl
  | some o => rw [f p o e n] at h; cases h
/-- [[] for .. in range(n)], as far as it is -/
def Emp (H0 : Hp) (D : Addr) (i : Nat) (H' : Hp) : Prop := ∃ ps : List Addr, ps.length = i ∧ (D :: ps).Nodup ∧ (∀ p ∈ D :: ps, H0 p = none) ∧ (∀ p ∈ ps, H' p = some (.lst [])) ∧ H' D = some (.lst (ps.map V.ref)) ∧ Same H0 H'
theorem emp0 {H : Hp} {D : Addr} (h : H D = none) : Emp H D 0 (upd H D (.lst [])) :=
  ⟨[], rfl, by simp, fun p hp => by simp at hp; rw [hp]; exact h, fun p hp => by simp at hp, upd_same, same_new h⟩
theorem emp_turn {H0 H' : Hp} {D p : Addr} {i : Nat} (E : Emp H0 D i H') (hp : H' p = none) (hi : i < 100) :
    ∃ acc, upd H' p (.lst []) D = some (.lst acc) ∧ acc.length < sizeLine ∧ Emp H0 D (i + 1) (upd (upd H' p (.lst [])) D (.lst (acc ++ [.ref p]))) := by
  obtain ⟨ps, hl, nd, h0, h1, h2, h3⟩ := E
  have nD : D ≠ p := ne_of_none h2 hp
  have np : ∀ q ∈ ps, q ≠ p := fun q hq => ne_of_none (h1 q hq) hp
  have nq : ∀ q ∈ ps, q ≠ D := fun q hq e => (List.nodup_cons.mp nd).1 (e ▸ hq)
  refine ⟨ps.map V.ref, by rw [upd_ne nD]; exact h2, by rw [List.length_map, hl]; exact small1000 (by omega), ps ++ [p], by simp [hl], ?_, ?_, ?_, by rw [upd_same, List.map_append]; rfl, ?_⟩
  · rw [← List.cons_append, List.nodup_append]
    refine ⟨nd, by simp, fun x hx y hy => ?_⟩
    simp only [List.mem_cons, List.not_mem_nil, or_false] at hy
    subst hy
    rcases List.mem_cons.mp hx with e | m
    · rw [e]; exact nD
    · exact np x m
  · intro q hq
    rcases List.mem_cons.mp hq with e | m
    · exact h0 q (by rw [e]; exact List.mem_cons_self)
    · rcases List.mem_append.mp m with m | m
      · exact h0 q (List.mem_cons_of_mem _ m)
      · simp at m
        subst m
        exact Same.free h3 hp
  · intro q hq
    rcases List.mem_append.mp hq with m | m
    · rw [upd_ne (nq q m), upd_ne (np q m)]
      exact h1 q m
    · simp at m
      subst m
      rw [upd_ne nD.symm, upd_same]
  · intro b o e
    rw [upd_ne (ne_of_none e (h0 D List.mem_cons_self)), upd_ne (ne_of_none (h3 b o e) hp)]
    exact h3 b o e
/-- the fields, told one behind another, from nothing or from a room's own -/
theorem flds_all {fs : List (Str × V)} (A : Ad) (h : fs = [] ∨ ∃ B : Ad, fs = B.flds) :
    putF "journal" (.ref A.jd) (putF "lost" (.ref A.sd) (putF "lent" (.ref A.ld) (putF "hands" (.ref A.hd) (putF "trays" (.ref A.td) (putF "cards" (.ref A.cd) fs))))) = A.flds := by
  have n1 : ¬ ("cards" : Str) = "trays" := by decide +kernel
  have n2 : ¬ ("cards" : Str) = "hands" := by decide +kernel
  have n3 : ¬ ("cards" : Str) = "lent" := by decide +kernel
  have n4 : ¬ ("cards" : Str) = "lost" := by decide +kernel
  have n5 : ¬ ("cards" : Str) = "journal" := by decide +kernel
  have m2 : ¬ ("trays" : Str) = "hands" := by decide +kernel
  have m3 : ¬ ("trays" : Str) = "lent" := by decide +kernel
  have m4 : ¬ ("trays" : Str) = "lost" := by decide +kernel
  have m5 : ¬ ("trays" : Str) = "journal" := by decide +kernel
  have k3 : ¬ ("hands" : Str) = "lent" := by decide +kernel
  have k4 : ¬ ("hands" : Str) = "lost" := by decide +kernel
  have k5 : ¬ ("hands" : Str) = "journal" := by decide +kernel
  have j4 : ¬ ("lent" : Str) = "lost" := by decide +kernel
  have j5 : ¬ ("lent" : Str) = "journal" := by decide +kernel
  have i5 : ¬ ("lost" : Str) = "journal" := by decide +kernel
  rcases h with rfl | ⟨B, rfl⟩
  · show putF "journal" _ (putF "lost" _ (putF "lent" _ (putF "hands" _ (putF "trays" _ [("cards", V.ref A.cd)])))) = _
    rw [put_past n1]
    show putF "journal" _ (putF "lost" _ (putF "lent" _ (putF "hands" _ [("cards", V.ref A.cd), ("trays", V.ref A.td)]))) = _
    rw [put_past n2, put_past m2]
    show putF "journal" _ (putF "lost" _ (putF "lent" _ [("cards", V.ref A.cd), ("trays", V.ref A.td), ("hands", V.ref A.hd)])) = _
    rw [put_past n3, put_past m3, put_past k3]
    show putF "journal" _ (putF "lost" _ [("cards", V.ref A.cd), ("trays", V.ref A.td), ("hands", V.ref A.hd), ("lent", V.ref A.ld)]) = _
    rw [put_past n4, put_past m4, put_past k4, put_past j4]
    show putF "journal" _ [("cards", V.ref A.cd), ("trays", V.ref A.td), ("hands", V.ref A.hd), ("lent", V.ref A.ld), ("lost", V.ref A.sd)] = _
    rw [put_past n5, put_past m5, put_past k5, put_past j5, put_past i5]
    rfl
  · unfold Ad.flds
    rw [put_here, put_past n1, put_here, put_past n2, put_past m2, put_here, put_past n3, put_past m3, put_past k3, put_here, put_past n4, put_past m4, put_past k4, put_past j4, put_here, put_past n5, put_past m5, put_past k5, put_past j5, put_past i5, put_here]
/-- begin: the room is made anew -/
def spBegin (C : Addr) : Sp := fun vs H Q _ => ∃ (a dx : Addr) (fs : List (Str × V)) (t c : Int), vs = [.ref a, .int t, .int c] ∧ H a = some (.ins C dx fs) ∧ (fs = [] ∨ ∃ B : Ad, fs = B.flds) ∧ 1 ≤ t ∧ t ≤ 4 ∧ 1 ≤ c ∧ c ≤ 3 ∧
  ∀ (H' : Hp) (A' : Ad), RoomAt C H' a A' (Vbenai.fresh t.toNat c.toNat) [] → A'.dx = dx → Kp a H H' → (∀ b ∈ A'.own, H b = none) → Q .non H'
def spInit (C : Addr) : Sp := fun vs H Q _ => ∃ (a dx : Addr) (t c : Int), vs = [.ref a, .int t, .int c] ∧ H a = some (.ins C dx []) ∧ 1 ≤ t ∧ t ≤ 4 ∧ 1 ≤ c ∧ c ≤ 3 ∧
  ∀ (H' : Hp) (A' : Ad), RoomAt C H' a A' (Vbenai.fresh t.toNat c.toNat) [] → A'.dx = dx → Kp a H H' → (∀ b ∈ A'.own, H b = none) → Q .non H'
theorem rows_empty {H : Hp} {ps : List Addr} {k : Nat} (hl : ps.length = k) (h : ∀ p ∈ ps, H p = some (.lst [])) : Rows H ps ((List.replicate k ([] : List Nat)).map nv) := by
  refine ⟨by simp [hl], fun i t l h1 h2 => ?_⟩
  rw [List.map_replicate] at h2
  obtain ⟨hi, e⟩ := List.getElem?_eq_some_iff.mp h2
  rw [List.getElem_replicate] at e
  rw [← e]
  exact h t (List.mem_of_getElem? h1)
theorem nd_join {l m : List Addr} {H : Hp} (hl : l.Nodup) (hm : m.Nodup) (a : ∀ x ∈ l, H x ≠ none) (d : ∀ x ∈ m, H x = none) : (l ++ m).Nodup :=
  List.nodup_append.mpr ⟨hl, hm, fun x hx y hy e => a x hx (by rw [e]; exact d y hy)⟩
section
variable {P : Program} {w : World} {K : PySem.W.Frag} {mg : Str → Option Value} {base : Heap} {C : Addr}
theorem sc_begin : FnScope ["self", "trays", "clerks", "t", "c"] ["self", "trays", "clerks"] (defScope (inClass (top 12) 1)) := ⟨rfl, rfl, rfl, by decide +kernel, rfl, by decide +kernel, by decide +kernel⟩
theorem m_begin (D : MetAt K C "begin" "Room.begin" (inClass (top 12) 1)) (T : Txt K mg C) : MtG P w K mg base C "begin" 1 ["self", "trays", "clerks"] (spBegin C) := by
  refine D.mt sc_begin (fun _ _ _ _ _ _ us hl => match us, hl with | [_, _, _], _ => rfl) (fun vs H Q E h => ?_) (fun f cdv A outer s H vs Q E hr h => ?_)
  · obtain ⟨_, _, _, _, _, rfl, _⟩ := h
    rfl
  · obtain ⟨a, dx, fs, t, c, rfl, h0, hfs, t1, t4, c1, c3, k⟩ := h
    refine ⟨_, pss_cons (ps_fld (pv 0) pe_dnewK rfl)
      (pss_cons (ps_fld (pv 0) (pe_lc (own := [("t", 3)]) (g := gName 3) (tt := tYes) (by rfl) sc_begin.nd (pi_range1 rfl T.range (pa_cons (pv 1) pa_nil)) (blkOk_by (own := [("t", 3)]) (N := ["self", "trays", "clerks", "t", "c"]) (sc := defScope (inClass (top 12) 1)) (by decide +kernel))
        (fun _ _ _ _ _ => pg_name (i := 3) sc_begin.nd rfl (Or.inl rfl)) (fun _ _ _ _ _ => pts_nil) (fun _ _ _ _ _ => pe_lst pa_nil)) rfl)
      (pss_cons (ps_fld (pv 0) (pe_lc (own := [("c", 4)]) (g := gName 4) (tt := tYes) (by rfl) sc_begin.nd (pi_range1 rfl T.range (pa_cons (pv 2) pa_nil)) (blkOk_by (own := [("c", 4)]) (N := ["self", "trays", "clerks", "t", "c"]) (sc := defScope (inClass (top 12) 1)) (by decide +kernel))
        (fun _ _ _ _ _ => pg_name (i := 4) sc_begin.nd rfl (Or.inl rfl)) (fun _ _ _ _ _ => pts_nil) (fun _ _ _ _ _ => pe_lst pa_nil)) rfl)
      (pss_cons (ps_fld (pv 0) pe_dnewK rfl)
      (pss_cons (ps_fld (pv 0) (pe_lst pa_nil) rfl)
      (pss_one (ps_fld (pv 0) (pe_lst pa_nil) rfl)))))), ?_⟩
    have fl : fs.length ≤ 6 := by
      rcases hfs with rfl | ⟨B, rfl⟩
      · simp
      · simp [Ad.flds]
    have fl1 : ∀ v, (putF ("cards" : Str) v fs).length ≤ 7 := fun v => by have := putF_len "cards" v fs; omega
    have fl2 : ∀ v u, (putF ("trays" : Str) u (putF ("cards" : Str) v fs)).length ≤ 8 := fun v u => by have := putF_len "trays" u (putF "cards" v fs); have := fl1 v; omega
    have fl3 : ∀ v u x, (putF ("hands" : Str) x (putF ("trays" : Str) u (putF ("cards" : Str) v fs))).length ≤ 9 := fun v u x => by have := putF_len "hands" x (putF "trays" u (putF "cards" v fs)); have := fl2 v u; omega
    have fl4 : ∀ v u x y, (putF ("lent" : Str) y (putF ("hands" : Str) x (putF ("trays" : Str) u (putF ("cards" : Str) v fs)))).length ≤ 10 := fun v u x y => by have := putF_len "lent" y (putF "hands" x (putF "trays" u (putF "cards" v fs))); have := fl3 v u x; omega
    have fl5 : ∀ v u x y z, (putF ("lost" : Str) z (putF ("lent" : Str) y (putF ("hands" : Str) x (putF ("trays" : Str) u (putF ("cards" : Str) v fs))))).length ≤ 11 := fun v u x y z => by have := putF_len "lost" z (putF "lent" y (putF "hands" x (putF "trays" u (putF "cards" v fs)))); have := fl4 v u x y; omega
    -- self.cards = {}
    intro d1 n1
    have a1 : a ≠ d1 := ne_of_none h0 n1
    refine ⟨_, rfl, a, C, dx, fs, rfl, (by rw [upd_ne a1]; exact h0), T.cl, T.nCards, (by omega), ?_⟩
    have e1 : Kp a H (upd (upd H d1 (.dK [])) a (.ins C dx (putF "cards" (.ref d1) fs))) := (Kp.same (same_new n1)).trans Kp.at_
    have g1 : (upd (upd H d1 (.dK [])) a (.ins C dx (putF "cards" (.ref d1) fs))) d1 = some (.dK []) := by rw [upd_ne a1.symm, upd_same]
    have o1 : (upd (upd H d1 (.dK [])) a (.ins C dx (putF "cards" (.ref d1) fs))) a = some (.ins C dx (putF "cards" (.ref d1) fs)) := upd_same
    generalize upd (upd H d1 (.dK [])) a (.ins C dx (putF "cards" (.ref d1) fs)) = H1 at e1 g1 o1
    -- self.trays = [[] for t in range(trays)]
    refine ⟨_, rfl, t, rfl, by omega, by omega, fun D1 hD1 => ?_⟩
    refine lc_range (lo := 0) (n := t.toNat) (Emp H1 D1) (emp0 hD1) (fun i H' hi E => ⟨rfl, iteT (B := Emp H1 D1 (i + 1) H') ⟨Nat.zero_le _, fun p hp => emp_turn E hp (by omega)⟩⟩) ?_
    rintro H2 ⟨ps1, l1, nd1, z1, r1, q1, s1⟩
    have o2 := s1 _ _ o1
    refine ⟨_, rfl, a, C, dx, _, rfl, o2, T.cl, T.nTrays, (by have := fl1 (.ref d1); omega), ?_⟩
    have e2 : Kp a H1 (upd H2 a (.ins C dx (putF "trays" (.ref D1) (putF "cards" (.ref d1) fs)))) := (Kp.same s1).trans Kp.at_
    have e2' : Kp a H2 (upd H2 a (.ins C dx (putF "trays" (.ref D1) (putF "cards" (.ref d1) fs)))) := Kp.at_
    have o3 : (upd H2 a (.ins C dx (putF "trays" (.ref D1) (putF "cards" (.ref d1) fs)))) a = some (.ins C dx (putF "trays" (.ref D1) (putF "cards" (.ref d1) fs))) := upd_same
    generalize upd H2 a (.ins C dx (putF "trays" (.ref D1) (putF "cards" (.ref d1) fs))) = H3 at e2 e2' o3
    have aD1 : ∀ p ∈ D1 :: ps1, p ≠ a := fun p hp => (ne_of_none o1 (z1 p hp)).symm
    have q3 := e2' _ _ q1 (aD1 D1 List.mem_cons_self)
    have r3 : ∀ p ∈ ps1, H3 p = some (.lst []) := fun p hp => e2' _ _ (r1 p hp) (aD1 p (List.mem_cons_of_mem _ hp))
    have g3 := e2 _ _ g1 a1.symm
    -- self.hands
    refine ⟨_, rfl, c, rfl, by omega, by omega, fun D2 hD2 => ?_⟩
    refine lc_range (lo := 0) (n := c.toNat) (Emp H3 D2) (emp0 hD2) (fun i H' hi E => ⟨rfl, iteT (B := Emp H3 D2 (i + 1) H') ⟨Nat.zero_le _, fun p hp => emp_turn E hp (by omega)⟩⟩) ?_
    rintro H4 ⟨ps2, l2, nd2, z2, r2, q2, s2⟩
    have o4 := s2 _ _ o3
    refine ⟨_, rfl, a, C, dx, _, rfl, o4, T.cl, T.nHands, (by have := fl2 (.ref d1) (.ref D1); omega), ?_⟩
    have e3 : Kp a H3 (upd H4 a (.ins C dx (putF "hands" (.ref D2) (putF "trays" (.ref D1) (putF "cards" (.ref d1) fs))))) := (Kp.same s2).trans Kp.at_
    have e3' : Kp a H4 (upd H4 a (.ins C dx (putF "hands" (.ref D2) (putF "trays" (.ref D1) (putF "cards" (.ref d1) fs))))) := Kp.at_
    have o5 : (upd H4 a (.ins C dx (putF "hands" (.ref D2) (putF "trays" (.ref D1) (putF "cards" (.ref d1) fs))))) a = some (.ins C dx (putF "hands" (.ref D2) (putF "trays" (.ref D1) (putF "cards" (.ref d1) fs)))) := upd_same
    generalize upd H4 a (.ins C dx (putF "hands" (.ref D2) (putF "trays" (.ref D1) (putF "cards" (.ref d1) fs)))) = H5 at e3 e3' o5
    have aD2 : ∀ p ∈ D2 :: ps2, p ≠ a := fun p hp => (ne_of_none o3 (z2 p hp)).symm
    have q5 := e3' _ _ q2 (aD2 D2 List.mem_cons_self)
    have r5 : ∀ p ∈ ps2, H5 p = some (.lst []) := fun p hp => e3' _ _ (r2 p hp) (aD2 p (List.mem_cons_of_mem _ hp))
    -- self.lent = {}
    intro d4 n4
    have a4 : a ≠ d4 := ne_of_none o5 n4
    refine ⟨_, rfl, a, C, dx, _, rfl, (by rw [upd_ne a4]; exact o5), T.cl, T.nLent, (by have := fl3 (.ref d1) (.ref D1) (.ref D2); omega), ?_⟩
    have e4 : Kp a H5 (upd (upd H5 d4 (.dK [])) a (.ins C dx (putF "lent" (.ref d4) (putF "hands" (.ref D2) (putF "trays" (.ref D1) (putF "cards" (.ref d1) fs)))))) := (Kp.same (same_new n4)).trans Kp.at_
    have g6 : (upd (upd H5 d4 (.dK [])) a (.ins C dx (putF "lent" (.ref d4) (putF "hands" (.ref D2) (putF "trays" (.ref D1) (putF "cards" (.ref d1) fs)))))) d4 = some (.dK []) := by rw [upd_ne a4.symm, upd_same]
    have o6 : (upd (upd H5 d4 (.dK [])) a (.ins C dx (putF "lent" (.ref d4) (putF "hands" (.ref D2) (putF "trays" (.ref D1) (putF "cards" (.ref d1) fs)))))) a = some (.ins C dx (putF "lent" (.ref d4) (putF "hands" (.ref D2) (putF "trays" (.ref D1) (putF "cards" (.ref d1) fs))))) := upd_same
    generalize upd (upd H5 d4 (.dK [])) a (.ins C dx (putF "lent" (.ref d4) (putF "hands" (.ref D2) (putF "trays" (.ref D1) (putF "cards" (.ref d1) fs))))) = H6 at e4 g6 o6
    -- self.lost = []
    refine ⟨Nat.zero_le _, fun d5 n5 => ?_⟩
    have a5 : a ≠ d5 := ne_of_none o6 n5
    refine ⟨_, rfl, a, C, dx, _, rfl, (by rw [upd_ne a5]; exact o6), T.cl, T.nLost, (by have := fl4 (.ref d1) (.ref D1) (.ref D2) (.ref d4); omega), ?_⟩
    have e5 : Kp a H6 (upd (upd H6 d5 (.lst [])) a (.ins C dx (putF "lost" (.ref d5) (putF "lent" (.ref d4) (putF "hands" (.ref D2) (putF "trays" (.ref D1) (putF "cards" (.ref d1) fs))))))) := (Kp.same (same_new n5)).trans Kp.at_
    have g7 : (upd (upd H6 d5 (.lst [])) a (.ins C dx (putF "lost" (.ref d5) (putF "lent" (.ref d4) (putF "hands" (.ref D2) (putF "trays" (.ref D1) (putF "cards" (.ref d1) fs))))))) d5 = some (.lst []) := by rw [upd_ne a5.symm, upd_same]
    have o7 : (upd (upd H6 d5 (.lst [])) a (.ins C dx (putF "lost" (.ref d5) (putF "lent" (.ref d4) (putF "hands" (.ref D2) (putF "trays" (.ref D1) (putF "cards" (.ref d1) fs))))))) a = some (.ins C dx (putF "lost" (.ref d5) (putF "lent" (.ref d4) (putF "hands" (.ref D2) (putF "trays" (.ref D1) (putF "cards" (.ref d1) fs)))))) := upd_same
    generalize upd (upd H6 d5 (.lst [])) a (.ins C dx (putF "lost" (.ref d5) (putF "lent" (.ref d4) (putF "hands" (.ref D2) (putF "trays" (.ref D1) (putF "cards" (.ref d1) fs)))))) = H7 at e5 g7 o7
    -- self.journal = []
    refine ⟨Nat.zero_le _, fun d6 n6 => ?_⟩
    have a6 : a ≠ d6 := ne_of_none o7 n6
    refine ⟨_, rfl, a, C, dx, _, rfl, (by rw [upd_ne a6]; exact o7), T.cl, T.nJournal, (by have := fl5 (.ref d1) (.ref D1) (.ref D2) (.ref d4) (.ref d5); omega), ?_⟩
    have ef := flds_all (fs := fs) ⟨dx, d1, D1, D2, d4, d5, d6, ps1, ps2, [], []⟩ hfs
    have e6 : Kp a H7 (upd (upd H7 d6 (.lst [])) a (.ins C dx (putF "journal" (.ref d6) (putF "lost" (.ref d5) (putF "lent" (.ref d4) (putF "hands" (.ref D2) (putF "trays" (.ref D1) (putF "cards" (.ref d1) fs)))))))) := (Kp.same (same_new n6)).trans Kp.at_
    have g8 : (upd (upd H7 d6 (.lst [])) a (.ins C dx (putF "journal" (.ref d6) (putF "lost" (.ref d5) (putF "lent" (.ref d4) (putF "hands" (.ref D2) (putF "trays" (.ref D1) (putF "cards" (.ref d1) fs)))))))) d6 = some (.lst []) := by rw [upd_ne a6.symm, upd_same]
    have o8 : (upd (upd H7 d6 (.lst [])) a (.ins C dx (putF "journal" (.ref d6) (putF "lost" (.ref d5) (putF "lent" (.ref d4) (putF "hands" (.ref D2) (putF "trays" (.ref D1) (putF "cards" (.ref d1) fs)))))))) a = some (.ins C dx (Ad.flds ⟨dx, d1, D1, D2, d4, d5, d6, ps1, ps2, [], []⟩)) := upd_same.trans (congrArg (fun q => some (HO.ins C dx q)) ef)
    generalize upd (upd H7 d6 (.lst [])) a (.ins C dx (putF "journal" (.ref d6) (putF "lost" (.ref d5) (putF "lent" (.ref d4) (putF "hands" (.ref D2) (putF "trays" (.ref D1) (putF "cards" (.ref d1) fs))))))) = H8 at e6 g8 o8
    have x7 := e5.trans e6
    have x6 := e4.trans x7
    have x5 : Kp a H3 H8 := e3.trans x6
    have x3 : Kp a H1 H8 := e2.trans x5
    have x1 : Kp a H H8 := e1.trans x3
    have rr1 : ∀ p ∈ ps1, H8 p = some (.lst []) := fun p hp => x5 _ _ (r3 p hp) (aD1 p (List.mem_cons_of_mem _ hp))
    have rr2 : ∀ p ∈ ps2, H8 p = some (.lst []) := fun p hp => x6 _ _ (r5 p hp) (aD2 p (List.mem_cons_of_mem _ hp))
    refine k H8 ⟨dx, d1, D1, D2, d4, d5, d6, ps1, ps2, [], []⟩ ⟨o8, x3 _ _ g1 a1.symm, rfl, fun i t x h1 h2 => by simp at h1, x5 _ _ q3 (aD1 D1 List.mem_cons_self), rows_empty l1 rr1,
      x6 _ _ q5 (aD2 D2 List.mem_cons_self), rows_empty l2 rr2, x7 _ _ g6 a4.symm, e6 _ _ g7 a5.symm, g8, ⟨rfl, fun i t l h1 h2 => by simp at h1⟩, ?_⟩ rfl x1 ?_
    · -- no address twice
      have w1 : ([a, d1] : List Addr).Nodup := by simp [a1]
      have alive1 : ∀ x ∈ ([a, d1] : List Addr), H1 x ≠ none := fun x hx => by
        simp only [List.mem_cons, List.not_mem_nil, or_false] at hx
        rcases hx with rfl | rfl
        · rw [o1]; simp
        · rw [g1]; simp
      have w2 := nd_join w1 nd1 alive1 z1
      have alive3 : ∀ x ∈ ([a, d1] : List Addr) ++ (D1 :: ps1), H3 x ≠ none := fun x hx => by
        rcases List.mem_append.mp hx with m | m
        · simp only [List.mem_cons, List.not_mem_nil, or_false] at m
          rcases m with rfl | rfl
          · rw [o3]; simp
          · rw [g3]; simp
        · rcases List.mem_cons.mp m with rfl | m
          · rw [q3]; simp
          · rw [r3 x m]; simp
      have w3 := nd_join w2 nd2 alive3 z2
      have alive5 : ∀ x ∈ (([a, d1] : List Addr) ++ (D1 :: ps1)) ++ (D2 :: ps2), H5 x ≠ none := fun x hx => by
        rcases List.mem_append.mp hx with m | m
        · by_cases xa : x = a
          · rw [xa, o5]; simp
          · cases hx3 : H3 x with
            | none => exact absurd hx3 (alive3 x m)
            | some o => rw [e3 x o hx3 xa]; simp
        · rcases List.mem_cons.mp m with rfl | m
          · rw [q5]; simp
          · rw [r5 x m]; simp
      have w4 := nd_join (m := [d4]) w3 (by simp) alive5 (fun x hx => by simp at hx; rw [hx]; exact n4)
      have alive6 : ∀ x ∈ ((([a, d1] : List Addr) ++ (D1 :: ps1)) ++ (D2 :: ps2)) ++ [d4], H6 x ≠ none := fun x hx => by
        rcases List.mem_append.mp hx with m | m
        · by_cases xa : x = a
          · rw [xa, o6]; simp
          · cases hx3 : H5 x with
            | none => exact absurd hx3 (alive5 x m)
            | some o => rw [e4 x o hx3 xa]; simp
        · simp at m
          rw [m, g6]; simp
      have w5 := nd_join (m := [d5]) w4 (by simp) alive6 (fun x hx => by simp at hx; rw [hx]; exact n5)
      have alive7 : ∀ x ∈ (((([a, d1] : List Addr) ++ (D1 :: ps1)) ++ (D2 :: ps2)) ++ [d4]) ++ [d5], H7 x ≠ none := fun x hx => by
        rcases List.mem_append.mp hx with m | m
        · by_cases xa : x = a
          · rw [xa, o7]; simp
          · cases hx3 : H6 x with
            | none => exact absurd hx3 (alive6 x m)
            | some o => rw [e5 x o hx3 xa]; simp
        · simp at m
          rw [m, g7]; simp
      have w6 := nd_join (m := [d6]) w5 (by simp) alive7 (fun x hx => by simp at hx; rw [hx]; exact n6)
      refine List.nodup_iff_count.mpr fun x => ?_
      have q := List.nodup_iff_count.mp w6 x
      simp only [Ad.own, List.count_append, List.count_cons, List.count_nil] at q ⊢
      omega
    · intro b hb
      simp only [Ad.own, List.append_nil] at hb
      have f3 : ∀ p, H3 p = none → p ≠ a → H p = none := fun p hp n => (e1.trans e2).free hp n
      rcases List.mem_append.mp hb with m | m
      · simp only [List.mem_cons, List.not_mem_nil, or_false] at m
        rcases m with rfl | rfl | rfl | rfl | rfl | rfl
        · exact n1
        · exact e1.free (z1 _ List.mem_cons_self) (aD1 _ List.mem_cons_self)
        · exact f3 _ (z2 _ List.mem_cons_self) (aD2 _ List.mem_cons_self)
        · exact (e1.trans (e2.trans e3)).free n4 a4.symm
        · exact (e1.trans (e2.trans (e3.trans e4))).free n5 a5.symm
        · exact (e1.trans (e2.trans (e3.trans (e4.trans e5)))).free n6 a6.symm
      · rcases List.mem_append.mp m with m | m
        · exact e1.free (z1 _ (List.mem_cons_of_mem _ m)) (aD1 _ (List.mem_cons_of_mem _ m))
        · exact f3 _ (z2 _ (List.mem_cons_of_mem _ m)) (aD2 _ (List.mem_cons_of_mem _ m))
theorem sc_init : FnScope ["self", "trays", "clerks"] ["self", "trays", "clerks"] (defScope (inClass (top 12) 0)) := ⟨rfl, rfl, rfl, by decide +kernel, rfl, by decide +kernel, by decide +kernel⟩
theorem m_init (D : MetAt K C "__init__" "Room.__init__" (inClass (top 12) 0)) (T : Txt K mg C) (gB : MtG P w K mg base C "begin" 1 ["self", "trays", "clerks"] (spBegin C)) : MtG P w K mg base C "__init__" 2 ["self", "trays", "clerks"] (spInit C) := by
  refine D.mt sc_init (fun _ _ _ _ _ _ us hl => match us, hl with | [_, _, _], _ => rfl) (fun vs H Q E h => ?_) (fun f cdv A outer s H vs Q E hr h => ?_)
  · obtain ⟨_, _, _, _, rfl, _⟩ := h
    rfl
  · obtain ⟨a, dx, t, c, rfl, h0, t1, t4, c1, c3, k⟩ := h
    refine ⟨_, pss_one (ps_expr (pe_mt gB T.cl hr (pv 0) (pa_cons (pv 1) (pa_cons (pv 2) pa_nil)))), ?_⟩
    exact ⟨_, rfl, a, dx, _, rfl, h0, rfl, _, rfl, _, rfl, a, dx, [], t, c, rfl, h0, .inl rfl, t1, t4, c1, c3, k⟩
end
end Cc

set_option Elab.async false
set_option linter.all false
set_option maxRecDepth 100000
set_option maxHeartbeats 4000000
namespace Cc
open PySem PySem.Spec PyProof.Rows L2
open VbenCore (isBetween)

/-! ### numbers of the top -/
section
variable {K : PySem.W.Frag} {mg : Str → Option Value} {C : Addr}
theorem Txt.at_ (T : Txt K mg C) (i : Nat) {x : Str} {n : Int} (h : gints[i]? = some (x, n)) : ∃ tk, mg x = some (.int n tk) := T.num _ (List.mem_of_getElem? h)
end
/-! ### frames -/
section
variable {H : Hp} {a : Addr} {A : Ad}
theorem Fr.at_ {x : Addr} {o : HO} (h : x ∈ a :: A.mut) : Fr H a A (upd H x o) A := ⟨fun b u e n => by rw [upd_ne (fun q => n (by rw [q]; exact h))]; exact e, fun b m => .inl (List.mem_cons_of_mem _ m), fun b m => .inl (List.mem_cons_of_mem _ m), upd_dm⟩
theorem Fr.new {p : Addr} {o : HO} (hp : H p = none) : Fr H a A (upd H p o) A := Fr.same (same_new hp)
theorem Fr.as {H' : Hp} {A1 A2 : Ad} (f : Fr H a A H' A1) (e : A2.own = A1.own) (e2 : A2.mut = A1.mut) : Fr H a A H' A2 := ⟨f.km, fun b m => f.nw b (by rw [← e]; exact m), fun b m => f.nm b (by rw [← e2]; exact m), f.dm⟩
theorem in_ts {i : Nat} {t : Addr} (h : A.ts[i]? = some t) : t ∈ a :: A.own := List.mem_of_getElem? (p_ts h)
theorem in_hs {i : Nat} {t : Addr} (h : A.hs[i]? = some t) : t ∈ a :: A.own := List.mem_of_getElem? (p_hs h)
theorem im_ts {i : Nat} {t : Addr} (h : A.ts[i]? = some t) : t ∈ a :: A.mut := List.mem_cons_of_mem _ (List.mem_append_right _ (List.mem_append_left _ (List.mem_of_getElem? h)))
theorem im_hs {i : Nat} {t : Addr} (h : A.hs[i]? = some t) : t ∈ a :: A.mut := List.mem_cons_of_mem _ (List.mem_append_right _ (List.mem_append_right _ (List.mem_of_getElem? h)))
end
/-! ### what dicts hold -/
theorem valV_cons {p : Key × V} {r : List (Key × V)} {k : Key} : valV (p :: r) k = if p.1 = k then some p.2 else valV r k := by
  unfold valV
  rw [List.find?_cons]
  by_cases h : p.1 = k
  · rw [decide_eq_true h, if_pos h]; rfl
  · rw [decide_eq_false h, if_neg h]
theorem key_nat {n m : Nat} : ((Sum.inl (n : Int) : Key) = Sum.inl (m : Int)) ↔ n = m := ⟨fun h => by have := Sum.inl.inj h; omega, fun h => by rw [h]⟩
theorem cK_len {cards : List Vbenai.Card} {cs : List Addr} (h : cs.length = cards.length) : (cK cards cs).length = cards.length := by
  unfold cK
  rw [List.length_map, List.length_zip, h, Nat.min_self]
theorem cK_cons (x : Vbenai.Card) (cards : List Vbenai.Card) (t : Addr) (cs : List Addr) : cK (x :: cards) (t :: cs) = (Sum.inl (x.number : Int), V.ref t) :: cK cards cs := rfl
theorem cK_none : ∀ {cards : List Vbenai.Card} {cs : List Addr} {n : Nat}, n ∉ cards.map (·.number) → valV (cK cards cs) (Sum.inl (n : Int)) = none
  | [], _, _, _ => by simp [cK, valV]
  | x :: cards, [], _, _ => by simp [cK, valV]
  | x :: cards, t :: cs, n, h => by
    rw [cK_cons, valV_cons, if_neg (fun e => h (by rw [← key_nat.mp e]; exact List.mem_cons_self))]
    exact cK_none fun m => h (List.mem_cons_of_mem _ m)
theorem cK_some : ∀ {cards : List Vbenai.Card} {cs : List Addr} {n : Nat} {x : Vbenai.Card}, cs.length = cards.length → (cards.find? fun x => x.number == n) = some x → ∃ (i : Nat) (t : Addr), cards[i]? = some x ∧ cs[i]? = some t ∧ valV (cK cards cs) (Sum.inl (n : Int)) = some (.ref t)
  | [], _, _, _, _, h => by simp at h
  | y :: cards, [], _, _, hl, _ => by simp at hl
  | y :: cards, t :: cs, n, x, hl, h => by
    rw [cK_cons, valV_cons]
    by_cases e : y.number = n
    · rw [List.find?_cons, show (y.number == n) = true by simpa using e] at h
      cases h
      exact ⟨0, t, rfl, rfl, by rw [if_pos (key_nat.mpr e)]⟩
    · rw [List.find?_cons, show (y.number == n) = false by simpa using e] at h
      obtain ⟨i, u, h1, h2, h3⟩ := cK_some (cards := cards) (cs := cs) (by simpa using hl) h
      exact ⟨i + 1, u, h1, h2, by rw [if_neg (fun q => e (key_nat.mp q))]; exact h3⟩
theorem cK_isSome {r : Vbenai.Room} {cs : List Addr} {n : Nat} (hl : cs.length = r.cards.length) : (valV (cK r.cards cs) (Sum.inl (n : Int))).isSome = (Vbenai.cardOf r n).isSome := by
  cases e : Vbenai.cardOf r n with
  | none =>
    rw [cK_none (cardOf_none.mp e)]
    rfl
  | some x =>
    obtain ⟨i, t, _, _, h⟩ := cK_some hl e
    rw [h]
    rfl
theorem lK_cons (x : Nat × Nat) (l : List (Nat × Nat)) : lK (x :: l) = (Sum.inl (x.1 : Int), V.int (x.2 : Int)) :: lK l := rfl
theorem lK_val : ∀ (l : List (Nat × Nat)) (n : Nat), valV (lK l) (Sum.inl (n : Int)) = (l.find? fun x => x.1 == n).map fun x => V.int (x.2 : Int)
  | [], _ => by simp [lK, valV]
  | x :: l, n => by
    rw [lK_cons, valV_cons, List.find?_cons]
    by_cases e : x.1 = n
    · rw [if_pos (key_nat.mpr e), show (x.1 == n) = true by simpa using e]; rfl
    · rw [if_neg (fun q => e (key_nat.mp q)), show (x.1 == n) = false by simpa using e]
      exact lK_val l n
theorem lK_isSome (l : List (Nat × Nat)) (n : Nat) : (valV (lK l) (Sum.inl (n : Int))).isSome = l.any fun x => x.1 == n := by
  rw [lK_val]
  induction l with
  | nil => rfl
  | cons x l ih =>
    rw [List.find?_cons, List.any_cons]
    cases x.1 == n with
    | true => rfl
    | false => simpa using ih
theorem lK_drop : ∀ (l : List (Nat × Nat)) (n : Nat), dropK (lK l) (Sum.inl (n : Int)) = lK (l.filter fun x => x.1 != n)
  | [], _ => rfl
  | x :: l, n => by
    rw [lK_cons, List.filter_cons]
    by_cases e : x.1 = n
    · rw [dropK_pos (show ((Sum.inl (x.1 : Int) : Key), V.int (x.2 : Int)).1 = Sum.inl (n : Int) from key_nat.mpr e), show (x.1 != n) = false by simpa using e]
      exact lK_drop l n
    · rw [dropK_neg (show ¬ ((Sum.inl (x.1 : Int) : Key), V.int (x.2 : Int)).1 = Sum.inl (n : Int) from fun q => e (key_nat.mp q)), show (x.1 != n) = true by simpa using e, lK_drop l n]
      rfl
theorem lK_snoc (l : List (Nat × Nat)) (n w : Nat) (h : (l.any fun x => x.1 == n) = false) : putK (lK l) (Sum.inl (n : Int)) (.int (w : Int)) = lK (l ++ [(n, w)]) := by
  have e : valV (lK l) (Sum.inl (n : Int)) = none := by
    have := lK_isSome l n
    rw [h] at this
    cases q : valV (lK l) (Sum.inl (n : Int)) with
    | none => rfl
    | some v => rw [q] at this; cases this
  rw [putK_new _ e]
  unfold lK
  rw [List.map_append]
  rfl
/-! ### rows -/
section
variable {C : Addr} {H : Hp} {a : Addr} {A : Ad} {r : Vbenai.Room} {log : List Vbenai.Event}
theorem RoomAt.trayOf (R : RoomAt C H a A r log) {i : Nat} (h : i < r.trays.length) : ∃ t, A.ts[i]? = some t ∧ H t = some (.lst (nv (Vbenai.trayAt r i))) := by
  obtain ⟨t, l, h1, h2, h3⟩ := R.tt.get (i := i) (by rw [List.length_map]; exact h)
  refine ⟨t, h1, ?_⟩
  rw [List.getElem?_map, List.getElem?_eq_getElem h] at h2
  cases h2
  rw [h3]
  unfold Vbenai.trayAt
  rw [List.getD_eq_getElem?_getD, List.getElem?_eq_getElem h]
  rfl
theorem RoomAt.handOf (R : RoomAt C H a A r log) {i : Nat} (h : i < r.hands.length) : ∃ t, A.hs[i]? = some t ∧ H t = some (.lst (nv (Vbenai.handAt r i))) := by
  obtain ⟨t, l, h1, h2, h3⟩ := R.hh.get (i := i) (by rw [List.length_map]; exact h)
  refine ⟨t, h1, ?_⟩
  rw [List.getElem?_map, List.getElem?_eq_getElem h] at h2
  cases h2
  rw [h3]
  unfold Vbenai.handAt
  rw [List.getD_eq_getElem?_getD, List.getElem?_eq_getElem h]
  rfl
end
section
variable {C : Addr} {H : Hp} {a : Addr} {A : Ad} {r : Vbenai.Room} {log : List Vbenai.Event} {K : PySem.W.Frag} {mg : Str → Option Value} {σ : L2.St} {tr tx : TE}
theorem v_ref_get {as : List Addr} {i : Nat} {t : Addr} (h : as[i]? = some t) : (as.map V.ref)[i]? = some (.ref t) := by
  rw [List.getElem?_map, h]
  rfl
/-- room.trays[t], room.hands[c] -/
theorem v_tray (R : RoomAt C H a A r log) (T : Txt K mg C) (hr : Val tr σ H (.ref a)) {i : Nat} (hx : Val tx σ H (.int (i : Int))) {t : Addr} (ht : A.ts[i]? = some t) : Val (tOp (rIxL K) (tFld K tr "trays") tx) σ H (.ref t) :=
  val_ixL (j := i) (val_fld hr R.ob T.cl T.nTrays (f_trays A)) hx (SqL.of R.dt) rfl (v_ref_get ht)
theorem v_hand (R : RoomAt C H a A r log) (T : Txt K mg C) (hr : Val tr σ H (.ref a)) {i : Nat} (hx : Val tx σ H (.int (i : Int))) {t : Addr} (ht : A.hs[i]? = some t) : Val (tOp (rIxL K) (tFld K tr "hands") tx) σ H (.ref t) :=
  val_ixL (j := i) (val_fld hr R.ob T.cl T.nHands (f_hands A)) hx (SqL.of R.dh) rfl (v_ref_get ht)
theorem has_tray_p (R : RoomAt C H a A r log) {t : Int} : SpP (spHasTray C) [.ref a, .int t] H (.bl (isTr r t)) := fun Q E q => ⟨a, A, r, log, t, rfl, R, q⟩
theorem has_clerk_p (R : RoomAt C H a A r log) {t : Int} : SpP (spHasClerk C) [.ref a, .int t] H (.bl (isCl r t)) := fun Q E q => ⟨a, A, r, log, t, rfl, R, q⟩
end

/-! ### what the steps promise -/
def StepQ (C a : Addr) (A : Ad) (r : Vbenai.Room) (log : List Vbenai.Event) (ok : Bool) (e : Vbenai.Event) (H : Hp) (Q : VK) : Prop :=
  (ok = false → Q (.int (-1)) H) ∧ (ok = true → ∀ n, Vbenai.stepped r e = .error n → Q (.int (-(n : Int))) H) ∧ (ok = true → ∀ r', Vbenai.stepped r e = .ok r' → 120 ≤ log.length → Q (.int (-6)) H) ∧
  (ok = true → ∀ r', Vbenai.stepped r e = .ok r' → log.length < 120 → ∀ (H' : Hp) (A' : Ad), RoomAt C H' a A' r' log → Fr H a A H' A' → Q (.int 0) H')
def spFullHand (C : Addr) : Sp := fun vs H Q _ => ∃ (a : Addr) (A : Ad) (r : Vbenai.Room) (log : List Vbenai.Event) (c : Nat), vs = [.ref a, .int (c : Int)] ∧ RoomAt C H a A r log ∧ c < r.hands.length ∧ Q (.bl (decide (3 ≤ (Vbenai.handAt r c).length))) H
def spFullLog (C : Addr) : Sp := fun vs H Q _ => ∃ (a : Addr) (A : Ad) (r : Vbenai.Room) (log : List Vbenai.Event), vs = [.ref a] ∧ RoomAt C H a A r log ∧ Q (.bl (decide (120 ≤ log.length))) H
def spWithout : Sp := fun vs H Q _ => ∃ (b : Addr) (l : List Nat) (n : Nat), vs = [.ref b, .int (n : Int)] ∧ H b = some (.lst (nv l)) ∧ l.length ≤ 1000 ∧ ∀ (p : Addr) (H' : Hp), H p = none → Same H H' → H' p = some (.lst (nv (l.filter fun x => x != n))) → Q (.ref p) H'
section
variable {P : Program} {w : World} {K : PySem.W.Frag} {mg : Str → Option Value} {base : Heap} {C : Addr}
theorem dec_ge {n m : Nat} : decide ((m : Int) ≤ (n : Int)) = decide (m ≤ n) := by
  by_cases h : m ≤ n
  · rw [decide_eq_true h, decide_eq_true (by omega)]
  · rw [decide_eq_false h, decide_eq_false (by omega)]
theorem sc_fh : FnScope ["room", "c"] ["room", "c"] (defScope (top 22)) := ⟨rfl, rfl, rfl, by decide +kernel, rfl, by decide +kernel, by decide +kernel⟩
theorem g_full_hand (D : DefAt K mg "is_hand_full" (top 22)) (T : Txt K mg C) : FnG P w K mg base "is_hand_full" 1 ["room", "c"] (spFullHand C) := by
  refine D.fn sc_fh (fun _ _ _ _ _ _ us hl => match us, hl with | [_, _], _ => rfl) (fun vs H Q E h => ?_) (fun f cdv Ar outer s H vs Q E hr h => ?_)
  · obtain ⟨_, _, _, _, _, rfl, _⟩ := h
    rfl
  · obtain ⟨a, A, r, log, c, rfl, R, hc, k⟩ := h
    refine ⟨_, pss_one (ps_ret (pe_cmpR op_ge (pe_callB call_len_seq (by rfl) T.len PySem.boot_len (pa_cons (pe_ix ix_list (pe_fld (pv 0) rfl) (pv 1) (fun _ _ => rfl)) pa_nil)) (pe_num (T.at_ 12 rfl)) (nomark _))), ?_⟩
    obtain ⟨t, ht, hH⟩ := R.handOf hc
    refine st_ret (v := .bl (decide (3 ≤ (Vbenai.handAt r c).length))) ?_ k
    have e : decide (3 ≤ (Vbenai.handAt r c).length) = decide ((3 : Int) ≤ ((nv (Vbenai.handAt r c)).length : Int)) := by rw [nv_len]; exact dec_ge.symm
    rw [e]
    exact val_op (val_cb (va_1 (v_hand R T (val_var rfl) (val_var rfl) ht)) fun Q q => ⟨t, _, rfl, .inl (SqL.of hH), q⟩) val_c fun Q q => ⟨_, _, rfl, rfl, q⟩
theorem sc_fl : FnScope ["room"] ["room"] (defScope (top 23)) := ⟨rfl, rfl, rfl, by decide +kernel, rfl, by decide +kernel, by decide +kernel⟩
theorem g_full_log (D : DefAt K mg "is_journal_full" (top 23)) (T : Txt K mg C) : FnG P w K mg base "is_journal_full" 1 ["room"] (spFullLog C) := by
  refine D.fn sc_fl (fun _ _ _ _ _ _ us hl => match us, hl with | [_], _ => rfl) (fun vs H Q E h => ?_) (fun f cdv Ar outer s H vs Q E hr h => ?_)
  · obtain ⟨_, _, _, _, rfl, _⟩ := h
    rfl
  · obtain ⟨a, A, r, log, rfl, R, k⟩ := h
    refine ⟨_, pss_one (ps_ret (pe_cmpR op_ge (pe_callB call_len_seq (by rfl) T.len PySem.boot_len (pa_cons (pe_fld (pv 0) rfl) pa_nil)) (pe_num (T.at_ 13 rfl)) (nomark _))), ?_⟩
    refine st_ret (v := .bl (decide (120 ≤ log.length))) ?_ k
    have e : decide (120 ≤ log.length) = decide ((120 : Int) ≤ ((A.js.map V.ref).length : Int)) := by rw [len_refs, R.jj.1, List.length_map]; exact dec_ge.symm
    rw [e]
    exact val_op (val_cb (va_1 (val_fld (val_var rfl) R.ob T.cl T.nJournal (f_journal A))) fun Q q => ⟨A.jd, _, rfl, .inl (SqL.of R.dj), q⟩) val_c fun Q q => ⟨_, _, rfl, rfl, q⟩
/-- a list made by picking from another -/
theorem filter_take {l : List Nat} {p : Nat → Bool} {i n : Nat} (h : l[i]? = some n) : (l.take (i + 1)).filter p = (l.take i).filter p ++ (if p n = true then [n] else []) := by
  have e : l.take (i + 1) = l.take i ++ [n] := by
    rw [List.take_add_one, h]
    rfl
  rw [e, List.filter_append, List.filter_cons, List.filter_nil]
theorem nv_get_inv {l : List Nat} {i : Nat} {v : V} (h : (nv l)[i]? = some v) : ∃ n, l[i]? = some n ∧ v = .int (n : Int) := by
  unfold nv at h
  rw [List.getElem?_map] at h
  cases e : l[i]? with
  | none => rw [e] at h; cases h
  | some n => rw [e] at h; exact ⟨n, rfl, (Option.some.inj h).symm⟩
theorem sc_wo : FnScope ["row", "n", "other"] ["row", "n"] (defScope (top 24)) := ⟨rfl, rfl, rfl, by decide +kernel, rfl, by decide +kernel, by decide +kernel⟩
theorem g_without (D : DefAt K mg "without" (top 24)) : FnG P w K mg base "without" 1 ["row", "n"] spWithout := by
  refine D.fn sc_wo (fun _ _ _ _ _ _ us hl => match us, hl with | [_, _], _ => rfl) (fun vs H Q E h => ?_) (fun f cdv Ar outer s H vs Q E hr h => ?_)
  · obtain ⟨_, _, _, rfl, _⟩ := h
    rfl
  · obtain ⟨b, l, n, rfl, hb, hl, k⟩ := h
    refine ⟨_, pss_one (ps_ret (pe_lc (own := [("other", 2)]) (g := gName 2) (by rfl) sc_wo.nd (pi_list (pv 0)) (blkOk_by (own := [("other", 2)]) (N := ["row", "n", "other"]) (sc := defScope (top 24)) (by decide +kernel))
      (fun _ _ _ _ _ => pg_name (i := 2) sc_wo.nd rfl (Or.inl rfl)) (fun _ _ _ _ _ => pts_one (pt_cmpR op_ne (pv 2) (pv 1) (nomark _))) (fun _ _ _ _ _ => pv 2))), ?_⟩
    refine ⟨_, rfl, b, rfl, ⟨_, SqL.of hb⟩, fun Dl hD => ?_⟩
    have nb : b ≠ Dl := ne_of_none hb hD
    refine lc_list (K := K) (a := b) (xs := nv l) (fun i H' => Same H H' ∧ H' Dl = some (.lst (nv ((l.take i).filter fun x => x != n)))) ⟨same_new hD, upd_same⟩ (fun i H' _ p => SqL.of (p.1 _ _ hb)) ?_ ?_
    · rintro i x H' hi ⟨s1, h1⟩
      obtain ⟨m, hm, rfl⟩ := nv_get_inv hi
      have hi2 : i < l.length := (List.getElem?_eq_some_iff.mp hm).1
      refine ⟨rfl, _, rfl, _, rfl, rfl, _, rfl, ?_⟩
      have ft := filter_take (p := fun x => x != n) hm
      by_cases e : m = n
      · have e2 : (!decide (V.int (m : Int) = V.int (n : Int))) = false := by rw [e]; simp
        rw [e2]
        refine iteF ⟨s1, ?_⟩
        rw [ft, if_neg (by simp [e]), List.append_nil]
        exact h1
      · have e2 : (!decide (V.int (m : Int) = V.int (n : Int))) = true := by
          have : ¬ V.int (m : Int) = V.int (n : Int) := fun q => e (by injection q with q; omega)
          rw [decide_eq_false this]; rfl
        rw [e2]
        refine iteT ⟨_, rfl, _, h1, ?_, fun b o z => ?_, ?_⟩
        · rw [nv_len]
          refine small1000 (Nat.le_trans (List.length_filter_le ..) ?_)
          rw [List.length_take]
          omega
        · rw [upd_ne (ne_of_none z hD)]
          exact s1 b o z
        · rw [upd_same, ft, if_pos (by simpa using e), nv_app]
          rfl
    · rintro H' ⟨s1, h1⟩
      rw [nv_len, List.take_length] at h1
      exact k Dl H' hD s1 h1
end
end Cc

set_option Elab.async false
set_option linter.all false
set_option maxRecDepth 100000
set_option maxHeartbeats 4000000
namespace Cc
open PySem PySem.Spec PyProof.Rows L2
open VbenCore (isBetween)

theorem btw {n lo hi : Int} (h : isBetween n lo hi = true) : lo ≤ n ∧ n ≤ hi := between h
theorem nat_of {n : Int} (h : 0 ≤ n) : ∃ m : Nat, n = (m : Int) := ⟨n.toNat, by omega⟩
theorem tr_lt {r : Vbenai.Room} {t : Int} (h : isTr r t = true) : 0 ≤ t ∧ t.toNat < r.trays.length := by
  have := btw h
  omega
theorem cl_lt {r : Vbenai.Room} {t : Int} (h : isCl r t = true) : 0 ≤ t ∧ t.toNat < r.hands.length := by
  have := btw h
  omega
theorem and3 {a b c : Bool} (h : (a && (b && c)) = true) : a = true ∧ b = true ∧ c = true := by
  cases a <;> cases b <;> cases c <;> simp_all
theorem and4 {a b c d : Bool} (h : (a && (b && (c && d))) = true) : a = true ∧ b = true ∧ c = true ∧ d = true := by
  cases a <;> cases b <;> cases c <;> cases d <;> simp_all
def spAdd (C : Addr) : Sp := fun vs H Q _ => ∃ (a : Addr) (A : Ad) (r : Vbenai.Room) (log : List Vbenai.Event) (n t k : Int), vs = [.ref a, .int n, .int t, .int k] ∧ RoomAt C H a A r log ∧ RInv r ∧
  StepQ C a A r log (isBetween n 0 999 && (isTr r t && isBetween k (-1000) 1000)) (.card n.toNat t.toNat k) H Q
def spTake (C : Addr) : Sp := fun vs H Q _ => ∃ (a : Addr) (A : Ad) (r : Vbenai.Room) (log : List Vbenai.Event) (c t p : Int), vs = [.ref a, .int c, .int t, .int p] ∧ RoomAt C H a A r log ∧ RInv r ∧
  StepQ C a A r log (isCl r c && (isTr r t && isBetween p 0 40)) (.take c.toNat t.toNat p.toNat) H Q
def spPut (C : Addr) : Sp := fun vs H Q _ => ∃ (a : Addr) (A : Ad) (r : Vbenai.Room) (log : List Vbenai.Event) (c h t p : Int), vs = [.ref a, .int c, .int h, .int t, .int p] ∧ RoomAt C H a A r log ∧ RInv r ∧
  StepQ C a A r log (isCl r c && (isBetween h 0 2 && (isTr r t && isBetween p 0 40))) (.put c.toNat h.toNat t.toNat p.toNat) H Q
def spLend (C : Addr) : Sp := fun vs H Q _ => ∃ (a : Addr) (A : Ad) (r : Vbenai.Room) (log : List Vbenai.Event) (c h w : Int), vs = [.ref a, .int c, .int h, .int w] ∧ RoomAt C H a A r log ∧ RInv r ∧
  StepQ C a A r log (isCl r c && (isBetween h 0 2 && isBetween w 0 9)) (.lend c.toNat h.toNat w.toNat) H Q
def spBack (C : Addr) : Sp := fun vs H Q _ => ∃ (a : Addr) (A : Ad) (r : Vbenai.Room) (log : List Vbenai.Event) (c n : Int), vs = [.ref a, .int c, .int n] ∧ RoomAt C H a A r log ∧ RInv r ∧
  StepQ C a A r log (isCl r c && isBetween n 0 999) (.back c.toNat n.toNat) H Q
def spLose (C : Addr) : Sp := fun vs H Q _ => ∃ (a : Addr) (A : Ad) (r : Vbenai.Room) (log : List Vbenai.Event) (n : Int), vs = [.ref a, .int n] ∧ RoomAt C H a A r log ∧ RInv r ∧
  StepQ C a A r log (isBetween n 0 999) (.lose n.toNat) H Q
def spFind (C : Addr) : Sp := fun vs H Q _ => ∃ (a : Addr) (A : Ad) (r : Vbenai.Room) (log : List Vbenai.Event) (n t : Int), vs = [.ref a, .int n, .int t] ∧ RoomAt C H a A r log ∧ RInv r ∧
  StepQ C a A r log (isBetween n 0 999 && isTr r t) (.find n.toNat t.toNat) H Q
/-! ### rows of numbers changed -/
theorem nv_erase : ∀ (l : List Nat) (i : Nat), (nv l).eraseIdx i = nv (l.eraseIdx i)
  | [], i => rfl
  | x :: l, 0 => rfl
  | x :: l, i + 1 => by
    show V.int (x : Int) :: (nv l).eraseIdx i = V.int (x : Int) :: nv (l.eraseIdx i)
    rw [nv_erase l i]
theorem nv_put (l : List Nat) (p n : Nat) : (nv l).take p ++ [V.int (n : Int)] ++ (nv l).drop p = nv (Vbenai.putAt l p n) := by
  unfold Vbenai.putAt nv
  rw [List.map_append, List.map_cons, List.map_take, List.map_drop, List.append_assoc]
  rfl
theorem flen_le {L : List (List Nat)} {l : List Nat} (h : l ∈ L) : l.length ≤ L.flatten.length := by
  obtain ⟨a, b, rfl⟩ := List.append_of_mem h
  simp
  omega
theorem length_of_counts : ∀ (m l : List Nat), (∀ a, l.count a ≤ m.count a) → l.length ≤ m.length
  | m, [], _ => Nat.zero_le _
  | m, x :: l, h => by
    have hx : x ∈ m := mem_of_count (by have := h x; rw [List.count_cons_self] at this; omega)
    have ih := length_of_counts (m.erase x) l fun a => by
      have := h a
      rw [List.count_cons] at this
      rw [List.count_erase]
      by_cases e : x == a
      · rw [if_pos e] at this ⊢; omega
      · rw [if_neg e] at this ⊢; omega
    rw [List.length_erase_of_mem hx] at ih
    have : 0 < m.length := List.length_pos_of_mem hx
    simp only [List.length_cons]
    omega
theorem RInv.lyl {r : Vbenai.Room} (R : RInv r) : r.trays.flatten.length ≤ 40 := by
  have := length_of_counts (r.cards.map (·.number)) r.trays.flatten fun a => by have := R.cnt a; omega
  rw [List.length_map] at this
  exact Nat.le_trans this R.le
theorem RInv.losl {r : Vbenai.Room} (R : RInv r) : r.lost.length ≤ 40 := by
  have := length_of_counts (r.cards.map (·.number)) r.lost fun a => by have := R.cnt a; omega
  rw [List.length_map] at this
  exact Nat.le_trans this R.le
theorem RInv.lenl {r : Vbenai.Room} (R : RInv r) : r.lent.length ≤ 40 := by
  have := length_of_counts (r.cards.map (·.number)) (r.lent.map (·.1)) fun a => by have := R.cnt a; omega
  rw [List.length_map, List.length_map] at this
  exact Nat.le_trans this R.le
theorem getD_mem {L : List (List Nat)} {i : Nat} (h : i < L.length) : L.getD i [] ∈ L := by
  rw [List.getD_eq_getElem?_getD, List.getElem?_eq_getElem h]
  exact List.getElem_mem h
theorem RInv.trl {r : Vbenai.Room} (R : RInv r) {i : Nat} (h : i < r.trays.length) : (Vbenai.trayAt r i).length ≤ 40 := Nat.le_trans (flen_le (getD_mem h)) R.lyl
theorem RInv.hal {r : Vbenai.Room} (R : RInv r) {i : Nat} (h : i < r.hands.length) : (Vbenai.handAt r i).length ≤ 3 := R.hl _ (getD_mem h)
theorem sz {n : Nat} (h : n ≤ 1000) : n < sizeLine := small1000 h
section
variable {C : Addr} {H : Hp} {a : Addr} {A : Ad} {r : Vbenai.Room} {log : List Vbenai.Event} {K : PySem.W.Frag} {mg : Str → Option Value} {σ : L2.St} {D : Ends} {tr tx te : TE}
theorem full_log_p (R : RoomAt C H a A r log) : SpP (spFullLog C) [.ref a] H (.bl (decide (120 ≤ log.length))) := fun Q E q => ⟨a, A, r, log, rfl, R, q⟩
theorem full_hand_p (R : RoomAt C H a A r log) {c : Nat} (h : c < r.hands.length) : SpP (spFullHand C) [.ref a, .int (c : Int)] H (.bl (decide (3 ≤ (Vbenai.handAt r c).length))) := fun Q E q => ⟨a, A, r, log, c, rfl, R, h, q⟩
/-- xs.append(e), the list found without a change -/
theorem st_app {l : Addr} {xs : List V} {v : V} (ha : Val tr σ H (.ref l)) (he : Val te σ H v) (hl : H l = some (.lst xs)) (hz : xs.length ≤ 1000) (k : D.nx σ (upd H l (.lst (xs ++ [v])))) : tDrop (tBM K "list" rAppend tr (tCons te tNil)) D σ H :=
  ha _ ⟨.inl ⟨rfl, _, SqL.of hl⟩, he _ ⟨l, xs, v, rfl, rfl, hl, sz hz, k⟩⟩
theorem sq_app {tz : TS} {l : Addr} {xs : List V} {v : V} (ha : Val tr σ H (.ref l)) (he : Val te σ H v) (hl : H l = some (.lst xs)) (hz : xs.length ≤ 1000) (k : tz D σ (upd H l (.lst (xs ++ [v])))) : tSeq (tDrop (tBM K "list" rAppend tr (tCons te tNil))) tz D σ H :=
  st_app (D := { D with nx := tz D }) ha he hl hz k
/-- x = xs.pop(i) -/
theorem st_pop {l : Addr} {xs : List V} {v : V} {i j : Nat} (ha : Val tr σ H (.ref l)) (he : Val te σ H (.int (i : Int))) (hl : H l = some (.lst xs)) (hi : i ≤ 1000) (hv : xs[i]? = some v) (k : D.nx (σ.set j (some v)) (upd H l (.lst (xs.eraseIdx i)))) :
    tAsg (tBM K "list" rPopAt tr (tCons te tNil)) (gName j) D σ H :=
  ha _ ⟨.inl ⟨rfl, _, SqL.of hl⟩, he _ ⟨l, xs, (i : Int), i, v, rfl, rfl, hl, by omega, by omega, (ixN_seq (Evl.ixN_nat (List.getElem?_eq_some_iff.mp hv).1)).1, hv, k⟩⟩
theorem sq_pop {tz : TS} {l : Addr} {xs : List V} {v : V} {i j : Nat} (ha : Val tr σ H (.ref l)) (he : Val te σ H (.int (i : Int))) (hl : H l = some (.lst xs)) (hi : i ≤ 1000) (hv : xs[i]? = some v) (k : tz D (σ.set j (some v)) (upd H l (.lst (xs.eraseIdx i)))) :
    tSeq (tAsg (tBM K "list" rPopAt tr (tCons te tNil)) (gName j)) tz D σ H := st_pop (D := { D with nx := tz D }) ha he hl hi hv k
/-- an if that returns, and what follows it -/
theorem sq_yes {c : TT} {t1 tz : TS} (h : Ans c σ H true) (q : t1 { D with nx := tz D } σ H) : tSeq (tIfS c t1 tNext) tz D σ H := st_yes (D := { D with nx := tz D }) h q
theorem sq_no {c : TT} {t1 tz : TS} (h : Ans c σ H false) (q : tz D σ H) : tSeq (tIfS c t1 tNext) tz D σ H := st_no (D := { D with nx := tz D }) h q
/-- if c: return v, told both ways -/
theorem sq_ret {c : TT} {tv : TE} {tz : TS} {v : V} {b : Bool} (h : Ans c σ H b) (hv : Val tv σ H v) (q1 : b = true → D.rt v H) (q2 : b = false → tz D σ H) : tSeq (tIfS c (tRet tv) tNext) tz D σ H := by
  cases b with
  | true => exact sq_yes h (st_ret (D := { D with nx := tz D }) hv (q1 rfl))
  | false => exact sq_no h (q2 rfl)
end
section
variable {P : Program} {w : World} {K : PySem.W.Frag} {mg : Str → Option Value} {base : Heap} {C : Addr}
theorem sc_add : FnScope ["room", "n", "home", "key"] ["room", "n", "home", "key"] (defScope (top 25)) := ⟨rfl, rfl, rfl, by decide +kernel, rfl, by decide +kernel, by decide +kernel⟩
theorem g_add (D : DefAt K mg "add_card" (top 25)) (T : Txt K mg C) (gN : FnG P w K mg base "is_card_number" 1 ["n"] (spIn 0 999)) (gK : FnG P w K mg base "is_key" 1 ["key"] (spIn (-1000) 1000)) (mT : MtG P w K mg base C "has_tray" 1 ["self", "t"] (spHasTray C))
    (gL : FnG P w K mg base "is_journal_full" 1 ["room"] (spFullLog C)) : FnG P w K mg base "add_card" 2 ["room", "n", "home", "key"] (spAdd C) := by
  refine D.fn sc_add (fun _ _ _ _ _ _ us hl => match us, hl with | [_, _, _, _], _ => rfl) (fun vs H Q E h => ?_) (fun f cdv Ar outer s H vs Q E hr h => ?_)
  · obtain ⟨_, _, _, _, _, _, _, rfl, _⟩ := h
    rfl
  · obtain ⟨a, A, r, log, n, t, k, rfl, R, I, q1, q2, q3, q4⟩ := h
    have hu := hu_of hr
    refine ⟨_, pss_cons (ps_if (pt_not (PW.pt (pw_and (pt_val (pe_fn gN hr (pa_cons (pv 1) pa_nil))) (pw_and (pt_val (pe_mt mT T.cl hr (pv 0) (pa_cons (pv 2) pa_nil))) (pw_and1 (pt_val (pe_fn gK hr (pa_cons (pv 3) pa_nil)))))))) (pss_one (ps_ret (pe_num (T.at_ 0 rfl)))) pss_nil)
      (pss_cons (ps_if (pt_cmp (pc_din hu (pv 1) (pe_fld (pv 0) rfl))) (pss_one (ps_ret (pe_num (T.at_ 8 rfl)))) pss_nil)
      (pss_cons (ps_if (pt_cmpR op_ge (pe_callB call_lenD (by rfl) T.len PySem.boot_len (pa_cons (pe_fld (pv 0) rfl) pa_nil)) (pe_num (T.at_ 11 rfl)) (nomark _)) (pss_one (ps_ret (pe_num (T.at_ 7 rfl)))) pss_nil)
      (pss_cons (ps_if (pt_val (pe_fn gL hr (pa_cons (pv 0) pa_nil))) (pss_one (ps_ret (pe_num (T.at_ 10 rfl)))) pss_nil)
      (pss_cons (ps_dput hu (pe_fld (pv 0) rfl) (pv 1) (pe_tup (pa_cons (pv 2) (pa_cons (pv 3) pa_nil))) rfl)
      (pss_cons (ps_expr (pe_bm PySem.F.plainAttrs_list PySem.F.slot_list_append PySem.F.type_list_append mt_append (pe_ix ix_list (pe_fld (pv 0) rfl) (pv 2) (fun _ _ => rfl)) (pa_cons (pv 1) pa_nil)))
      (pss_one (ps_ret (pe_num (T.at_ 6 rfl))))))))), ?_⟩
    have test := ans_not (ans_and2 (ans_val (val_call (E := E0) (va_1 (val_var (i := 1) rfl)) (in_p (lo := 0) (hi := 999) (n := n) (H := H)))) (ans_and2 (ans_val (val_meth (E := E0) (σ := [some (.ref a), some (.int n), some (.int t), some (.int k)]) (val_var (i := 0) rfl) R.ob (f_has_tray A) (va_1 (val_var (i := 2) rfl)) (has_tray_p R (t := t)))) (ans_val (val_call (E := E0) (va_1 (val_var (i := 3) rfl)) (in_p (lo := -1000) (hi := 1000) (n := k) (H := H))))))
    cases ok : (isBetween n 0 999 && (isTr r t && isBetween k (-1000) 1000)) with
    | false =>
      rw [ok] at test
      exact st_seq (st_yes test (st_ret val_c (q1 ok)))
    | true =>
      rw [ok] at test
      obtain ⟨o1, o2, o3⟩ := and3 ok
      have o1 := btw o1
      obtain ⟨t0, t1⟩ := tr_lt o2
      obtain ⟨n, rfl⟩ := nat_of o1.1
      obtain ⟨t, rfl⟩ := nat_of t0
      simp only [Int.toNat_natCast] at q2 q3 q4 t1
      have q2 := q2 ok
      have q3 := q3 ok
      have q4 := q4 ok
      refine st_seq (st_no test (st_next ?_))
      have hin : Ans (tB (tDIn (tVar 1) (tFld K (tVar 0) "cards"))) [some (.ref a), some (.int (n : Int)), some (.int (t : Int)), some (.int k)] H (Vbenai.cardOf r n).isSome := by
        rw [← cK_isSome R.cl]
        exact ans_val (val_din (y := .int (n : Int)) (val_var rfl) (val_fld (val_var rfl) R.ob T.cl T.nCards (f_cards A)) (DGet.k (k := Sum.inl (n : Int)) R.dc))
      cases hs : (Vbenai.cardOf r n).isSome with
      | true =>
        rw [hs] at hin
        refine st_seq (st_yes hin (st_ret val_c (q2 4 ?_)))
        simp only [Vbenai.stepped, hs, if_true]
      | false =>
        rw [hs] at hin
        refine st_seq (st_no hin (st_next ?_))
        have hlen : Ans (tTest (tOp (rI0 fun i j => .bl (decide (j ≤ i))) (tCB (fun xs H Q => ∃ a kvs, xs = [V.ref a] ∧ H a = some (.dK kvs) ∧ Q (.int kvs.length) H) (tCons (tFld K (tVar 0) "cards") tNil)) (tC (.int 40)))) [some (.ref a), some (.int (n : Int)), some (.int (t : Int)), some (.int k)] H (decide (40 ≤ r.cards.length)) := by
          refine ans_cmp (val_cb (va_1 (val_fld (val_var rfl) R.ob T.cl T.nCards (f_cards A))) fun Q q => ⟨A.cd, _, rfl, R.dc, q⟩) val_c fun Q q => ⟨_, _, rfl, rfl, ?_⟩
          rw [cK_len R.cl]
          have e : decide ((40 : Int) ≤ (r.cards.length : Int)) = decide (40 ≤ r.cards.length) := dec_ge
          show Q (.bl (decide ((40 : Int) ≤ (r.cards.length : Int)))) H
          rw [e]
          exact q
        by_cases hc : 40 ≤ r.cards.length
        · rw [decide_eq_true hc] at hlen
          refine st_seq (st_yes hlen (st_ret val_c (q2 3 ?_)))
          simp only [Vbenai.stepped, hs, Bool.false_eq_true, if_false, Vbenai.CARDS, hc, if_true]
        · rw [decide_eq_false hc] at hlen
          refine st_seq (st_no hlen (st_next ?_))
          have hst : Vbenai.stepped r (.card n t k) = .ok { r with cards := r.cards ++ [⟨n, t, k⟩], trays := r.trays.set t (Vbenai.trayAt r t ++ [n]) } := by
            simp only [Vbenai.stepped, hs, Bool.false_eq_true, if_false, Vbenai.CARDS, hc]
          have hlog := ans_val (val_call (E := E0) (σ := [some (.ref a), some (.int (n : Int)), some (.int (t : Int)), some (.int k)]) (va_1 (val_var (i := 0) rfl)) (full_log_p R))
          by_cases hj : 120 ≤ log.length
          · rw [decide_eq_true hj] at hlog
            exact st_seq (st_yes hlog (st_ret val_c (q3 _ hst hj)))
          · rw [decide_eq_false hj] at hlog
            refine st_seq (st_no hlog (st_next ?_))
            -- room.cards[n] = (home, key)
            refine ⟨_, rfl, _, rfl, (by show 2 ≤ sizeLine; decide), fun p hp => ?_⟩
            have s1 : Same H (upd H p (.tup [.int (t : Int), .int k])) := same_new hp
            have ob1 := s1 _ _ R.ob
            have dc1 := s1 _ _ R.dc
            refine ⟨_, rfl, a, C, _, _, _, rfl, ob1, T.cl, T.nCards, f_cards A, _, rfl, A.cd, _, rfl, DPut.k (k := Sum.inl (n : Int)) dc1 (sz (by rw [cK_len R.cl]; omega)), ?_⟩
            have hnone : valV (cK r.cards A.cs) (Sum.inl (n : Int)) = none := by
              have z := cK_isSome (n := n) R.cl
              rw [hs] at z
              cases y : valV (cK r.cards A.cs) (Sum.inl (n : Int)) with
              | none => rfl
              | some v => rw [y] at z; cases z
            rw [putK_new _ hnone, ← cK_snoc r.cards A.cs ⟨n, t, k⟩ p R.cl]
            have R1 := R.addCard ⟨n, t, k⟩ hp
            have F1 : Fr H a A (upd (upd H p (.tup [.int (t : Int), .int k])) A.cd (.dK (cK (r.cards ++ [⟨n, t, k⟩]) (A.cs ++ [p])))) { A with cs := A.cs ++ [p] } := ((Fr.new hp).trans (Fr.at_ (List.mem_cons_of_mem _ List.mem_cons_self))).as rfl rfl
            -- room.trays[home].append(n)
            obtain ⟨ta, hta, hTa⟩ := R1.trayOf (i := t) t1
            refine sq_app (v_tray R1 T (val_var rfl) (val_var rfl) hta) (val_var rfl) hTa (by rw [nv_len]; exact Nat.le_trans (I.trl t1) (by decide)) ?_
            have R2 := R1.tray hta (Vbenai.trayAt r t ++ [n])
            have F2 := F1.trans (Fr.at_ (o := .lst (nv (Vbenai.trayAt r t ++ [n]))) (im_ts hta))
            rw [nv_app] at R2 F2
            refine st_ret val_c ?_
            exact q4 _ hst (by omega) _ _ R2 F2
end
end Cc

set_option Elab.async false
set_option linter.all false
set_option maxRecDepth 100000
set_option maxHeartbeats 4000000
namespace Cc
open PySem PySem.Spec PyProof.Rows L2
open VbenCore (isBetween)

theorem not_t {b : Bool} (h : (!b) = true) : b = false := by simpa using h
theorem not_f {b : Bool} (h : (!b) = false) : b = true := by simpa using h
theorem dt {p : Prop} [Decidable p] (h : decide p = true) : p := of_decide_eq_true h
theorem df {p : Prop} [Decidable p] (h : decide p = false) : ¬ p := of_decide_eq_false h
section
variable {C : Addr} {H : Hp} {a : Addr} {A : Ad} {r : Vbenai.Room} {log : List Vbenai.Event} {K : PySem.W.Frag} {mg : Str → Option Value} {σ : L2.St} {D : Ends} {tr tx te : TE}
/-- len(room.trays[t]), len(room.hands[c]) -/
theorem v_len {l : Addr} {xs : List V} (h : Val te σ H (.ref l)) (hl : H l = some (.lst xs)) : Val (tCB (fun xs H Q => ∃ p ys, xs = [.ref p] ∧ (SqL K H p ys ∨ SqT K H p ys) ∧ Q (.int ys.length) H) (tCons te tNil)) σ H (.int (xs.length : Int)) :=
  val_cb (va_1 h) fun Q q => ⟨l, xs, rfl, .inl (SqL.of hl), q⟩
theorem a_ge {i j : Int} (hx : Val tr σ H (.int i)) (hy : Val tx σ H (.int j)) : Ans (tTest (tOp (rI0 fun i j => .bl (decide (j ≤ i))) tr tx)) σ H (decide (j ≤ i)) := ans_cmp hx hy fun Q q => ⟨i, j, rfl, rfl, q⟩
theorem a_gt {i j : Int} (hx : Val tr σ H (.int i)) (hy : Val tx σ H (.int j)) : Ans (tTest (tOp (rI0 fun i j => .bl (decide (j < i))) tr tx)) σ H (decide (j < i)) := ans_cmp hx hy fun Q q => ⟨i, j, rfl, rfl, q⟩
theorem a_ne {i j : Int} (hx : Val tr σ H (.int i)) (hy : Val tx σ H (.int j)) : Ans (tTest (tOp rNe tr tx)) σ H (!decide (i = j)) := by
  refine ans_ne hx hy rfl ?_
  refine congrArg (!·) ?_
  by_cases h : i = j
  · rw [decide_eq_true h, h]; simp
  · rw [decide_eq_false h, decide_eq_false (fun q => h (by injection q))]
theorem a_eq {i j : Int} (hx : Val tr σ H (.int i)) (hy : Val tx σ H (.int j)) : Ans (tTest (tOp rEq tr tx)) σ H (decide (i = j)) := by
  refine ans_eq hx hy rfl ?_
  by_cases h : i = j
  · rw [decide_eq_true h, h]; simp
  · rw [decide_eq_false h, decide_eq_false (fun q => h (by injection q))]
theorem a_in {neg : Bool} {n : Nat} {l : Addr} {xs : List Nat} (hx : Val tr σ H (.int (n : Int))) (hy : Val tx σ H (.ref l)) (hl : H l = some (.lst (nv xs))) : Ans (tTest (tOp (rIn K neg) tr tx)) σ H (if neg then !xs.contains n else xs.contains n) :=
  ans_cmp hx hy fun Q q => ⟨l, nv xs, rfl, .inl (SqL.of hl), rfl, nv_flat xs, by rw [nv_in]; exact q⟩
theorem lent_none (R : RInv r) {c i n : Nat} (hc : c < r.hands.length) (h : (Vbenai.handAt r c)[i]? = some n) : (r.lent.any fun x => x.1 == n) = false := by
  have h1 : n ∈ Vbenai.handAt r c := List.mem_of_getElem? h
  have h2 := count_le_flatten n (getD_mem hc)
  have h3 := count_of_mem h1
  have h4 := R.cnt n
  have h5 := List.nodup_iff_count.mp R.nd n
  unfold Vbenai.handAt at h3
  cases e : (r.lent.any fun x => x.1 == n) with
  | false => rfl
  | true =>
    obtain ⟨x, hx, e2⟩ := List.any_eq_true.mp e
    have m : n ∈ r.lent.map (·.1) := List.mem_map.mpr ⟨x, hx, by simpa using e2⟩
    have := count_of_mem m
    omega
end
section
variable {P : Program} {w : World} {K : PySem.W.Frag} {mg : Str → Option Value} {base : Heap} {C : Addr}
theorem sc_take : FnScope ["room", "c", "t", "p", "n"] ["room", "c", "t", "p"] (defScope (top 26)) := ⟨rfl, rfl, rfl, by decide +kernel, rfl, by decide +kernel, by decide +kernel⟩
theorem g_take (D : DefAt K mg "take_card" (top 26)) (T : Txt K mg C) (gP : FnG P w K mg base "is_place" 1 ["p"] (spIn 0 40)) (mC : MtG P w K mg base C "has_clerk" 1 ["self", "c"] (spHasClerk C)) (mT : MtG P w K mg base C "has_tray" 1 ["self", "t"] (spHasTray C))
    (gH : FnG P w K mg base "is_hand_full" 1 ["room", "c"] (spFullHand C)) (gL : FnG P w K mg base "is_journal_full" 1 ["room"] (spFullLog C)) : FnG P w K mg base "take_card" 2 ["room", "c", "t", "p"] (spTake C) := by
  refine D.fn sc_take (fun _ _ _ _ _ _ us hl => match us, hl with | [_, _, _, _], _ => rfl) (fun vs H Q E h => ?_) (fun f cdv Ar outer s H vs Q E hr h => ?_)
  · obtain ⟨_, _, _, _, _, _, _, rfl, _⟩ := h
    rfl
  · obtain ⟨a, A, r, log, c, t, p, rfl, R, I, q1, q2, q3, q4⟩ := h
    refine ⟨_, pss_cons (ps_if (pt_not (PW.pt (pw_and (pt_val (pe_mt mC T.cl hr (pv 0) (pa_cons (pv 1) pa_nil))) (pw_and (pt_val (pe_mt mT T.cl hr (pv 0) (pa_cons (pv 2) pa_nil))) (pw_and1 (pt_val (pe_fn gP hr (pa_cons (pv 3) pa_nil)))))))) (pss_one (ps_ret (pe_num (T.at_ 0 rfl)))) pss_nil)
      (pss_cons (ps_if (pt_cmpR op_ge (pv 3) (pe_callB call_len_seq (by rfl) T.len PySem.boot_len (pa_cons (pe_ix ix_list (pe_fld (pv 0) rfl) (pv 2) (fun _ _ => rfl)) pa_nil)) (nomark _)) (pss_one (ps_ret (pe_num (T.at_ 8 rfl)))) pss_nil)
      (pss_cons (ps_if (pt_val (pe_fn gH hr (pa_cons (pv 0) (pa_cons (pv 1) pa_nil)))) (pss_one (ps_ret (pe_num (T.at_ 9 rfl)))) pss_nil)
      (pss_cons (ps_if (pt_val (pe_fn gL hr (pa_cons (pv 0) pa_nil))) (pss_one (ps_ret (pe_num (T.at_ 10 rfl)))) pss_nil)
      (pss_cons (ps_set (i := 4) sc_take.nd rfl (Or.inl rfl) (pe_bm PySem.F.plainAttrs_list PySem.F.slot_list_pop PySem.F.type_list_pop mt_popAt (pe_ix ix_list (pe_fld (pv 0) rfl) (pv 2) (fun _ _ => rfl)) (pa_cons (pv 3) pa_nil)))
      (pss_cons (ps_expr (pe_bm PySem.F.plainAttrs_list PySem.F.slot_list_append PySem.F.type_list_append mt_append (pe_ix ix_list (pe_fld (pv 0) rfl) (pv 1) (fun _ _ => rfl)) (pa_cons (pv 4) pa_nil)))
      (pss_one (ps_ret (pe_num (T.at_ 6 rfl))))))))), ?_⟩
    refine sq_ret (ans_not (ans_and2 (ans_val (val_meth (val_var rfl) R.ob (f_has_clerk A) (va_1 (val_var rfl)) (has_clerk_p R (t := c)))) (ans_and2 (ans_val (val_meth (val_var rfl) R.ob (f_has_tray A) (va_1 (val_var rfl)) (has_tray_p R (t := t)))) (ans_val (val_call (va_1 (val_var rfl)) (in_p (n := p)))))))
      val_c (fun e => q1 (not_t e)) (fun e => ?_)
    have ok := not_f e
    obtain ⟨o1, o2, o3⟩ := and3 ok
    obtain ⟨c0, c1⟩ := cl_lt o1
    obtain ⟨t0, t1⟩ := tr_lt o2
    have o3 := btw o3
    obtain ⟨c, rfl⟩ := nat_of c0
    obtain ⟨t, rfl⟩ := nat_of t0
    obtain ⟨p, rfl⟩ := nat_of o3.1
    have q2 := q2 ok
    have q3 := q3 ok
    have q4 := q4 ok
    simp only [Int.toNat_natCast] at q2 q3 q4 t1 c1
    obtain ⟨ta, hta, hTa⟩ := R.trayOf (i := t) t1
    obtain ⟨ha, hha, hHa⟩ := R.handOf (i := c) c1
    refine sq_ret (a_ge (val_var rfl) (v_len (v_tray R T (val_var rfl) (val_var rfl) hta) hTa)) val_c (fun e => q2 4 ?_) (fun e => ?_)
    · have e := dt e
      rw [nv_len] at e
      simp only [Vbenai.stepped]
      rw [List.getElem?_eq_none (by omega)]
    have e := df e
    rw [nv_len] at e
    obtain ⟨n, hn⟩ : ∃ n, (Vbenai.trayAt r t)[p]? = some n := ⟨_, List.getElem?_eq_getElem (by omega)⟩
    refine sq_ret (ans_val (val_call (va_cons (val_var rfl) (va_1 (val_var rfl))) (full_hand_p R c1))) val_c (fun e => q2 5 ?_) (fun e => ?_)
    · have e := dt e
      simp only [Vbenai.stepped, hn]
      rw [if_pos (show Vbenai.HAND ≤ (Vbenai.handAt r c).length from e)]
    have e := df e
    have hst : Vbenai.stepped r (.take c t p) = .ok { r with trays := r.trays.set t ((Vbenai.trayAt r t).eraseIdx p), hands := r.hands.set c (Vbenai.handAt r c ++ [n]) } := by
      simp only [Vbenai.stepped, hn]
      rw [if_neg (show ¬ Vbenai.HAND ≤ (Vbenai.handAt r c).length from e)]
    refine sq_ret (ans_val (val_call (va_1 (val_var rfl)) (full_log_p R))) val_c (fun e => q3 _ hst (dt e)) (fun e => ?_)
    have e6 := df e
    refine sq_pop (i := p) (v_tray R T (val_var rfl) (val_var rfl) hta) (val_var rfl) hTa (by omega) (nv_get hn) ?_
    rw [nv_erase]
    have R1 := R.tray hta ((Vbenai.trayAt r t).eraseIdx p)
    have F1 : Fr H a A (upd H ta (.lst (nv ((Vbenai.trayAt r t).eraseIdx p)))) A := Fr.at_ (im_ts hta)
    obtain ⟨ha', hha', hHa'⟩ := R1.handOf (i := c) c1
    refine sq_app (v_hand R1 T (val_var rfl) (val_var rfl) hha') (val_var rfl) hHa' (by rw [nv_len]; exact Nat.le_trans (I.hal c1) (by decide)) ?_
    have R2 := R1.hand hha' (Vbenai.handAt r c ++ [n])
    have F2 := F1.trans (Fr.at_ (o := .lst (nv (Vbenai.handAt r c ++ [n]))) (im_hs hha'))
    rw [nv_app] at R2 F2
    refine st_ret val_c ?_
    exact q4 _ hst (by omega) _ _ R2 F2
theorem sc_put : FnScope ["room", "c", "h", "t", "p", "n"] ["room", "c", "h", "t", "p"] (defScope (top 27)) := ⟨rfl, rfl, rfl, by decide +kernel, rfl, by decide +kernel, by decide +kernel⟩
theorem g_put (D : DefAt K mg "put_card" (top 27)) (T : Txt K mg C) (gP : FnG P w K mg base "is_place" 1 ["p"] (spIn 0 40)) (gHp : FnG P w K mg base "is_hand_place" 1 ["h"] (spIn 0 2)) (mC : MtG P w K mg base C "has_clerk" 1 ["self", "c"] (spHasClerk C)) (mT : MtG P w K mg base C "has_tray" 1 ["self", "t"] (spHasTray C))
    (gL : FnG P w K mg base "is_journal_full" 1 ["room"] (spFullLog C)) : FnG P w K mg base "put_card" 2 ["room", "c", "h", "t", "p"] (spPut C) := by
  refine D.fn sc_put (fun _ _ _ _ _ _ us hl => match us, hl with | [_, _, _, _, _], _ => rfl) (fun vs H Q E h => ?_) (fun f cdv Ar outer s H vs Q E hr h => ?_)
  · obtain ⟨_, _, _, _, _, _, _, _, rfl, _⟩ := h
    rfl
  · obtain ⟨a, A, r, log, c, h, t, p, rfl, R, I, q1, q2, q3, q4⟩ := h
    refine ⟨_, pss_cons (ps_if (pt_not (PW.pt (pw_and (pt_val (pe_mt mC T.cl hr (pv 0) (pa_cons (pv 1) pa_nil))) (pw_and (pt_val (pe_fn gHp hr (pa_cons (pv 2) pa_nil))) (pw_and (pt_val (pe_mt mT T.cl hr (pv 0) (pa_cons (pv 3) pa_nil))) (pw_and1 (pt_val (pe_fn gP hr (pa_cons (pv 4) pa_nil))))))))) (pss_one (ps_ret (pe_num (T.at_ 0 rfl)))) pss_nil)
      (pss_cons (ps_if (PW.pt (pw_or (pt_cmpR op_ge (pv 2) (pe_callB call_len_seq (by rfl) T.len PySem.boot_len (pa_cons (pe_ix ix_list (pe_fld (pv 0) rfl) (pv 1) (fun _ _ => rfl)) pa_nil)) (nomark _)) (pw_or1 (pt_cmpR op_gt (pv 4) (pe_callB call_len_seq (by rfl) T.len PySem.boot_len (pa_cons (pe_ix ix_list (pe_fld (pv 0) rfl) (pv 3) (fun _ _ => rfl)) pa_nil)) (nomark _))))) (pss_one (ps_ret (pe_num (T.at_ 8 rfl)))) pss_nil)
      (pss_cons (ps_if (pt_val (pe_fn gL hr (pa_cons (pv 0) pa_nil))) (pss_one (ps_ret (pe_num (T.at_ 10 rfl)))) pss_nil)
      (pss_cons (ps_set (i := 5) sc_put.nd rfl (Or.inl rfl) (pe_bm PySem.F.plainAttrs_list PySem.F.slot_list_pop PySem.F.type_list_pop mt_popAt (pe_ix ix_list (pe_fld (pv 0) rfl) (pv 1) (fun _ _ => rfl)) (pa_cons (pv 2) pa_nil)))
      (pss_cons (ps_expr (pe_bm PySem.F.plainAttrs_list PySem.F.slot_list_insert PySem.F.type_list_insert mt_insert (pe_ix ix_list (pe_fld (pv 0) rfl) (pv 3) (fun _ _ => rfl)) (pa_cons (pv 4) (pa_cons (pv 5) pa_nil))))
      (pss_one (ps_ret (pe_num (T.at_ 6 rfl)))))))), ?_⟩
    refine sq_ret (ans_not (ans_and2 (ans_val (val_meth (val_var rfl) R.ob (f_has_clerk A) (va_1 (val_var rfl)) (has_clerk_p R (t := c)))) (ans_and2 (ans_val (val_call (va_1 (val_var rfl)) (in_p (n := h)))) (ans_and2 (ans_val (val_meth (val_var rfl) R.ob (f_has_tray A) (va_1 (val_var rfl)) (has_tray_p R (t := t)))) (ans_val (val_call (va_1 (val_var rfl)) (in_p (n := p))))))))
      val_c (fun e => q1 (not_t e)) (fun e => ?_)
    have ok := not_f e
    obtain ⟨o1, o4, o2, o3⟩ := and4 ok
    obtain ⟨c0, c1⟩ := cl_lt o1
    obtain ⟨t0, t1⟩ := tr_lt o2
    have o3 := btw o3
    have o4 := btw o4
    obtain ⟨c, rfl⟩ := nat_of c0
    obtain ⟨t, rfl⟩ := nat_of t0
    obtain ⟨p, rfl⟩ := nat_of o3.1
    obtain ⟨h, rfl⟩ := nat_of o4.1
    have q2 := q2 ok
    have q3 := q3 ok
    have q4 := q4 ok
    simp only [Int.toNat_natCast] at q2 q3 q4 t1 c1
    obtain ⟨ta, hta, hTa⟩ := R.trayOf (i := t) t1
    obtain ⟨ha, hha, hHa⟩ := R.handOf (i := c) c1
    refine sq_ret (ans_orB (a_ge (val_var rfl) (v_len (v_hand R T (val_var rfl) (val_var rfl) hha) hHa)) (a_gt (val_var rfl) (v_len (v_tray R T (val_var rfl) (val_var rfl) hta) hTa))) val_c (fun e => q2 4 ?_) (fun e => ?_)
    · rw [Bool.or_eq_true, nv_len, nv_len] at e
      simp only [Vbenai.stepped]
      cases hh : (Vbenai.handAt r c)[h]? with
      | none => rfl
      | some n =>
        have := (List.getElem?_eq_some_iff.mp hh).1
        rcases e with e | e
        · have e := dt e
          omega
        · have e := dt e
          simp only
          rw [if_pos (by omega)]
    rw [Bool.or_eq_false_iff, nv_len, nv_len] at e
    have e1 := df e.1
    have e2 := df e.2
    obtain ⟨n, hn⟩ : ∃ n, (Vbenai.handAt r c)[h]? = some n := ⟨_, List.getElem?_eq_getElem (by omega)⟩
    have hst : Vbenai.stepped r (.put c h t p) = .ok { r with trays := r.trays.set t (Vbenai.putAt (Vbenai.trayAt r t) p n), hands := r.hands.set c ((Vbenai.handAt r c).eraseIdx h) } := by
      simp only [Vbenai.stepped, hn]
      rw [if_neg (by omega)]
    refine sq_ret (ans_val (val_call (va_1 (val_var rfl)) (full_log_p R))) val_c (fun e => q3 _ hst (dt e)) (fun e => ?_)
    have e6 := df e
    refine sq_pop (i := h) (v_hand R T (val_var rfl) (val_var rfl) hha) (val_var rfl) hHa (by omega) (nv_get hn) ?_
    rw [nv_erase]
    have R1 := R.hand hha ((Vbenai.handAt r c).eraseIdx h)
    have F1 : Fr H a A (upd H ha (.lst (nv ((Vbenai.handAt r c).eraseIdx h)))) A := Fr.at_ (im_hs hha)
    obtain ⟨ta', hta', hTa'⟩ := R1.trayOf (i := t) t1
    refine v_tray R1 T (val_var rfl) (val_var rfl) hta' _ ⟨.inl ⟨rfl, _, SqL.of hTa'⟩, _, rfl, _, rfl, ta', _, _, _, rfl, rfl, hTa', sz (by rw [nv_len]; exact Nat.le_trans (I.trl t1) (by decide)), by omega, by omega, ?_⟩
    rw [Int.toNat_natCast, nv_put]
    have R2 := R1.tray hta' (Vbenai.putAt (Vbenai.trayAt r t) p n)
    have F2 := F1.trans (Fr.at_ (o := .lst (nv (Vbenai.putAt (Vbenai.trayAt r t) p n))) (im_ts hta'))
    exact q4 _ hst (by omega) _ _ R2 F2
theorem sc_lend : FnScope ["room", "c", "h", "who", "n"] ["room", "c", "h", "who"] (defScope (top 28)) := ⟨rfl, rfl, rfl, by decide +kernel, rfl, by decide +kernel, by decide +kernel⟩
theorem g_lend (D : DefAt K mg "lend_card" (top 28)) (T : Txt K mg C) (gW : FnG P w K mg base "is_borrower" 1 ["who"] (spIn 0 9)) (gHp : FnG P w K mg base "is_hand_place" 1 ["h"] (spIn 0 2)) (mC : MtG P w K mg base C "has_clerk" 1 ["self", "c"] (spHasClerk C))
    (gL : FnG P w K mg base "is_journal_full" 1 ["room"] (spFullLog C)) : FnG P w K mg base "lend_card" 2 ["room", "c", "h", "who"] (spLend C) := by
  refine D.fn sc_lend (fun _ _ _ _ _ _ us hl => match us, hl with | [_, _, _, _], _ => rfl) (fun vs H Q E h => ?_) (fun f cdv Ar outer s H vs Q E hr h => ?_)
  · obtain ⟨_, _, _, _, _, _, _, rfl, _⟩ := h
    rfl
  · obtain ⟨a, A, r, log, c, h, wh, rfl, R, I, q1, q2, q3, q4⟩ := h
    have hu := hu_of hr
    refine ⟨_, pss_cons (ps_if (pt_not (PW.pt (pw_and (pt_val (pe_mt mC T.cl hr (pv 0) (pa_cons (pv 1) pa_nil))) (pw_and (pt_val (pe_fn gHp hr (pa_cons (pv 2) pa_nil))) (pw_and1 (pt_val (pe_fn gW hr (pa_cons (pv 3) pa_nil)))))))) (pss_one (ps_ret (pe_num (T.at_ 0 rfl)))) pss_nil)
      (pss_cons (ps_if (pt_cmpR op_ge (pv 2) (pe_callB call_len_seq (by rfl) T.len PySem.boot_len (pa_cons (pe_ix ix_list (pe_fld (pv 0) rfl) (pv 1) (fun _ _ => rfl)) pa_nil)) (nomark _)) (pss_one (ps_ret (pe_num (T.at_ 8 rfl)))) pss_nil)
      (pss_cons (ps_if (pt_val (pe_fn gL hr (pa_cons (pv 0) pa_nil))) (pss_one (ps_ret (pe_num (T.at_ 10 rfl)))) pss_nil)
      (pss_cons (ps_set (i := 4) sc_lend.nd rfl (Or.inl rfl) (pe_bm PySem.F.plainAttrs_list PySem.F.slot_list_pop PySem.F.type_list_pop mt_popAt (pe_ix ix_list (pe_fld (pv 0) rfl) (pv 1) (fun _ _ => rfl)) (pa_cons (pv 2) pa_nil)))
      (pss_cons (ps_dput hu (pe_fld (pv 0) rfl) (pv 4) (pv 3) rfl)
      (pss_one (ps_ret (pe_num (T.at_ 6 rfl)))))))), ?_⟩
    refine sq_ret (ans_not (ans_and2 (ans_val (val_meth (val_var rfl) R.ob (f_has_clerk A) (va_1 (val_var rfl)) (has_clerk_p R (t := c)))) (ans_and2 (ans_val (val_call (va_1 (val_var rfl)) (in_p (n := h)))) (ans_val (val_call (va_1 (val_var rfl)) (in_p (n := wh)))))))
      val_c (fun e => q1 (not_t e)) (fun e => ?_)
    have ok := not_f e
    obtain ⟨o1, o4, o3⟩ := and3 ok
    obtain ⟨c0, c1⟩ := cl_lt o1
    have o3 := btw o3
    have o4 := btw o4
    obtain ⟨c, rfl⟩ := nat_of c0
    obtain ⟨wh, rfl⟩ := nat_of o3.1
    obtain ⟨h, rfl⟩ := nat_of o4.1
    have q2 := q2 ok
    have q3 := q3 ok
    have q4 := q4 ok
    simp only [Int.toNat_natCast] at q2 q3 q4 c1
    obtain ⟨ha, hha, hHa⟩ := R.handOf (i := c) c1
    refine sq_ret (a_ge (val_var rfl) (v_len (v_hand R T (val_var rfl) (val_var rfl) hha) hHa)) val_c (fun e => q2 4 ?_) (fun e => ?_)
    · have e := dt e
      rw [nv_len] at e
      simp only [Vbenai.stepped]
      rw [List.getElem?_eq_none (by omega)]
    have e := df e
    rw [nv_len] at e
    obtain ⟨n, hn⟩ : ∃ n, (Vbenai.handAt r c)[h]? = some n := ⟨_, List.getElem?_eq_getElem (by omega)⟩
    have hst : Vbenai.stepped r (.lend c h wh) = .ok { r with hands := r.hands.set c ((Vbenai.handAt r c).eraseIdx h), lent := r.lent ++ [(n, wh)] } := by
      simp only [Vbenai.stepped, hn]
    refine sq_ret (ans_val (val_call (va_1 (val_var rfl)) (full_log_p R))) val_c (fun e => q3 _ hst (dt e)) (fun e => ?_)
    have e6 := df e
    refine sq_pop (i := h) (v_hand R T (val_var rfl) (val_var rfl) hha) (val_var rfl) hHa (by omega) (nv_get hn) ?_
    rw [nv_erase]
    have R1 := R.hand hha ((Vbenai.handAt r c).eraseIdx h)
    have F1 : Fr H a A (upd H ha (.lst (nv ((Vbenai.handAt r c).eraseIdx h)))) A := Fr.at_ (im_hs hha)
    refine ⟨_, rfl, _, rfl, a, C, _, _, _, rfl, R1.ob, T.cl, T.nLent, f_lent A, _, rfl, A.ld, _, rfl, DPut.k (k := Sum.inl (n : Int)) R1.dl (sz (by show (lK r.lent).length ≤ 1000; unfold lK; rw [List.length_map]; exact Nat.le_trans I.lenl (by decide))), ?_⟩
    have R2 := R1.setLent (r.lent ++ [(n, wh)])
    have F2 := F1.trans (Fr.at_ (o := .dK (lK (r.lent ++ [(n, wh)]))) (x := A.ld) (List.mem_of_getElem? (show (a :: A.mut)[4]? = some A.ld from rfl)))
    rw [← lK_snoc r.lent n wh (lent_none I c1 hn)] at R2 F2
    exact q4 _ hst (by omega) _ _ R2 F2
theorem sc_back : FnScope ["room", "c", "n"] ["room", "c", "n"] (defScope (top 29)) := ⟨rfl, rfl, rfl, by decide +kernel, rfl, by decide +kernel, by decide +kernel⟩
theorem g_back (D : DefAt K mg "get_back" (top 29)) (T : Txt K mg C) (gN : FnG P w K mg base "is_card_number" 1 ["n"] (spIn 0 999)) (mC : MtG P w K mg base C "has_clerk" 1 ["self", "c"] (spHasClerk C))
    (gH : FnG P w K mg base "is_hand_full" 1 ["room", "c"] (spFullHand C)) (gL : FnG P w K mg base "is_journal_full" 1 ["room"] (spFullLog C)) : FnG P w K mg base "get_back" 2 ["room", "c", "n"] (spBack C) := by
  refine D.fn sc_back (fun _ _ _ _ _ _ us hl => match us, hl with | [_, _, _], _ => rfl) (fun vs H Q E h => ?_) (fun f cdv Ar outer s H vs Q E hr h => ?_)
  · obtain ⟨_, _, _, _, _, _, rfl, _⟩ := h
    rfl
  · obtain ⟨a, A, r, log, c, n, rfl, R, I, q1, q2, q3, q4⟩ := h
    have hu := hu_of hr
    refine ⟨_, pss_cons (ps_if (pt_not (PW.pt (pw_and (pt_val (pe_mt mC T.cl hr (pv 0) (pa_cons (pv 1) pa_nil))) (pw_and1 (pt_val (pe_fn gN hr (pa_cons (pv 2) pa_nil))))))) (pss_one (ps_ret (pe_num (T.at_ 0 rfl)))) pss_nil)
      (pss_cons (ps_if (pt_cmp (pc_dnotin hu (pv 2) (pe_fld (pv 0) rfl))) (pss_one (ps_ret (pe_num (T.at_ 8 rfl)))) pss_nil)
      (pss_cons (ps_if (pt_val (pe_fn gH hr (pa_cons (pv 0) (pa_cons (pv 1) pa_nil)))) (pss_one (ps_ret (pe_num (T.at_ 9 rfl)))) pss_nil)
      (pss_cons (ps_if (pt_val (pe_fn gL hr (pa_cons (pv 0) pa_nil))) (pss_one (ps_ret (pe_num (T.at_ 10 rfl)))) pss_nil)
      (pss_cons (ps_expr (pe_dpop1 (pe_fld (pv 0) rfl) (pv 2) ⟨rfl, rfl, rfl, rfl⟩))
      (pss_cons (ps_expr (pe_bm PySem.F.plainAttrs_list PySem.F.slot_list_append PySem.F.type_list_append mt_append (pe_ix ix_list (pe_fld (pv 0) rfl) (pv 1) (fun _ _ => rfl)) (pa_cons (pv 2) pa_nil)))
      (pss_one (ps_ret (pe_num (T.at_ 6 rfl))))))))), ?_⟩
    refine sq_ret (ans_not (ans_and2 (ans_val (val_meth (val_var rfl) R.ob (f_has_clerk A) (va_1 (val_var rfl)) (has_clerk_p R (t := c)))) (ans_val (val_call (va_1 (val_var rfl)) (in_p (n := n))))))
      val_c (fun e => q1 (not_t e)) (fun e => ?_)
    have ok := not_f e
    obtain ⟨o1, o3⟩ := Bool.and_eq_true_iff.mp ok
    obtain ⟨c0, c1⟩ := cl_lt o1
    have o3 := btw o3
    obtain ⟨c, rfl⟩ := nat_of c0
    obtain ⟨n, rfl⟩ := nat_of o3.1
    have q2 := q2 ok
    have q3 := q3 ok
    have q4 := q4 ok
    simp only [Int.toNat_natCast] at q2 q3 q4 c1
    refine sq_ret (ans_val (val_dnotin (y := .int (n : Int)) (val_var rfl) (val_fld (val_var rfl) R.ob T.cl T.nLent (f_lent A)) (DGet.k (k := Sum.inl (n : Int)) R.dl))) val_c (fun e => q2 4 ?_) (fun e => ?_)
    · have e := not_t e
      rw [lK_isSome] at e
      simp only [Vbenai.stepped, e, if_true]
    have e := not_f e
    have e' := e
    rw [lK_isSome] at e
    refine sq_ret (ans_val (val_call (va_cons (val_var rfl) (va_1 (val_var rfl))) (full_hand_p R c1))) val_c (fun e5 => q2 5 ?_) (fun e5 => ?_)
    · have e5 := dt e5
      simp only [Vbenai.stepped, e, Bool.true_eq_false, if_false]
      rw [if_pos (show Vbenai.HAND ≤ (Vbenai.handAt r c).length from e5)]
    have e5 := df e5
    have hst : Vbenai.stepped r (.back c n) = .ok { r with lent := r.lent.filter (fun x => x.1 != n), hands := r.hands.set c (Vbenai.handAt r c ++ [n]) } := by
      simp only [Vbenai.stepped, e, Bool.true_eq_false, if_false]
      rw [if_neg (show ¬ Vbenai.HAND ≤ (Vbenai.handAt r c).length from e5)]
    refine sq_ret (ans_val (val_call (va_1 (val_var rfl)) (full_log_p R))) val_c (fun e => q3 _ hst (dt e)) (fun e6 => ?_)
    have e6 := df e6
    obtain ⟨v, hv⟩ := Option.isSome_iff_exists.mp e'
    refine ⟨_, rfl, a, C, _, _, _, rfl, R.ob, T.cl, T.nLent, f_lent A, A.ld, rfl, .inl ⟨_, .inl R.dl⟩, _, rfl, _, Sum.inl (n : Int), v, R.dl, rfl, hv, ?_⟩
    have R1 := R.setLent (r.lent.filter fun x => x.1 != n)
    have F1 : Fr H a A (upd H A.ld (.dK (lK (r.lent.filter fun x => x.1 != n)))) A := Fr.at_ (List.mem_of_getElem? (show (a :: A.mut)[4]? = some A.ld from rfl))
    rw [lK_drop]
    obtain ⟨ha', hha', hHa'⟩ := R1.handOf (i := c) c1
    refine sq_app (v_hand R1 T (val_var rfl) (val_var rfl) hha') (val_var rfl) hHa' (by rw [nv_len]; exact Nat.le_trans (I.hal c1) (by decide)) ?_
    have R2 := R1.hand hha' (Vbenai.handAt r c ++ [n])
    have F2 := F1.trans (Fr.at_ (o := .lst (nv (Vbenai.handAt r c ++ [n]))) (im_hs hha'))
    rw [nv_app] at R2 F2
    refine st_ret val_c ?_
    exact q4 _ hst (by omega) _ _ R2 F2
theorem remove_at : ∀ {l : List Nat} {n : Nat}, n ∈ l → l.Nodup → ∃ j : Nat, l[j]? = some n ∧ (∀ m : Nat, m < j → l[m]? ≠ some n) ∧ l.eraseIdx j = l.filter fun x => x != n
  | [], n, h, _ => by simp at h
  | x :: l, n, h, nd => by
    obtain ⟨h1, h2⟩ := List.nodup_cons.mp nd
    by_cases e : x = n
    · subst e
      refine ⟨0, rfl, fun m hm => by omega, ?_⟩
      rw [List.filter_cons, show (x != x) = false by simp]
      show l = _
      refine (List.filter_eq_self.mpr fun y hy => ?_).symm
      simp only [bne_iff_ne, ne_eq]
      intro q
      subst q
      exact h1 hy
    · obtain ⟨j, a, b, c⟩ := remove_at (l := l) (n := n) ((List.mem_cons.mp h).resolve_left fun q => e q.symm) h2
      refine ⟨j + 1, a, fun m hm => ?_, ?_⟩
      · cases m with
        | zero => intro q; exact e (Option.some.inj q)
        | succ m => exact b m (by omega)
      · rw [List.filter_cons, show (x != n) = true by simpa using e]
        show x :: l.eraseIdx j = x :: _
        rw [c]
theorem lost_nd {r : Vbenai.Room} (R : RInv r) : r.lost.Nodup := List.nodup_iff_count.mpr fun a => by
  have := R.cnt a
  have := List.nodup_iff_count.mp R.nd a
  omega
theorem map_erase {α β : Type} (f : α → β) : ∀ (l : List α) (i : Nat), (l.map f).eraseIdx i = (l.eraseIdx i).map f
  | [], i => rfl
  | x :: l, 0 => rfl
  | x :: l, i + 1 => by
    show f x :: (l.map f).eraseIdx i = f x :: (l.eraseIdx i).map f
    rw [map_erase f l i]
theorem nv_int (l : List Nat) : nv l = (l.map fun (n : Nat) => (n : Int)).map V.int := by
  unfold nv
  rw [List.map_map]
  rfl
theorem sc_find : FnScope ["room", "n", "t"] ["room", "n", "t"] (defScope (top 31)) := ⟨rfl, rfl, rfl, by decide +kernel, rfl, by decide +kernel, by decide +kernel⟩
theorem g_find (D : DefAt K mg "find_card" (top 31)) (T : Txt K mg C) (gN : FnG P w K mg base "is_card_number" 1 ["n"] (spIn 0 999)) (mT : MtG P w K mg base C "has_tray" 1 ["self", "t"] (spHasTray C))
    (gL : FnG P w K mg base "is_journal_full" 1 ["room"] (spFullLog C)) : FnG P w K mg base "find_card" 2 ["room", "n", "t"] (spFind C) := by
  refine D.fn sc_find (fun _ _ _ _ _ _ us hl => match us, hl with | [_, _, _], _ => rfl) (fun vs H Q E h => ?_) (fun f cdv Ar outer s H vs Q E hr h => ?_)
  · obtain ⟨_, _, _, _, _, _, rfl, _⟩ := h
    rfl
  · obtain ⟨a, A, r, log, n, t, rfl, R, I, q1, q2, q3, q4⟩ := h
    refine ⟨_, pss_cons (ps_if (pt_not (PW.pt (pw_and (pt_val (pe_fn gN hr (pa_cons (pv 1) pa_nil))) (pw_and1 (pt_val (pe_mt mT T.cl hr (pv 0) (pa_cons (pv 2) pa_nil))))))) (pss_one (ps_ret (pe_num (T.at_ 0 rfl)))) pss_nil)
      (pss_cons (ps_if (pt_cmpR op_notIn_seq (pv 1) (pe_fld (pv 0) rfl) (by rfl)) (pss_one (ps_ret (pe_num (T.at_ 8 rfl)))) pss_nil)
      (pss_cons (ps_if (pt_val (pe_fn gL hr (pa_cons (pv 0) pa_nil))) (pss_one (ps_ret (pe_num (T.at_ 10 rfl)))) pss_nil)
      (pss_cons (ps_expr (pe_bm PySem.F.plainAttrs_list PySem.F.slot_list_remove PySem.F.type_list_remove mt_remove (pe_fld (pv 0) rfl) (pa_cons (pv 1) pa_nil)))
      (pss_cons (ps_expr (pe_bm PySem.F.plainAttrs_list PySem.F.slot_list_append PySem.F.type_list_append mt_append (pe_ix ix_list (pe_fld (pv 0) rfl) (pv 2) (fun _ _ => rfl)) (pa_cons (pv 1) pa_nil)))
      (pss_one (ps_ret (pe_num (T.at_ 6 rfl)))))))), ?_⟩
    refine sq_ret (ans_not (ans_and2 (ans_val (val_call (va_1 (val_var rfl)) (in_p (n := n)))) (ans_val (val_meth (val_var rfl) R.ob (f_has_tray A) (va_1 (val_var rfl)) (has_tray_p R (t := t))))))
      val_c (fun e => q1 (not_t e)) (fun e => ?_)
    have ok := not_f e
    obtain ⟨o1, o2⟩ := Bool.and_eq_true_iff.mp ok
    obtain ⟨t0, t1⟩ := tr_lt o2
    have o1 := btw o1
    obtain ⟨t, rfl⟩ := nat_of t0
    obtain ⟨n, rfl⟩ := nat_of o1.1
    have q2 := q2 ok
    have q3 := q3 ok
    have q4 := q4 ok
    simp only [Int.toNat_natCast] at q2 q3 q4 t1
    refine sq_ret (a_in (neg := true) (val_var rfl) (val_fld (val_var rfl) R.ob T.cl T.nLost (f_lost A)) R.ds) val_c (fun e => q2 4 ?_) (fun e => ?_)
    · have e := not_t e
      simp only [Vbenai.stepped, e, if_true]
    have e := not_f e
    have hst : Vbenai.stepped r (.find n t) = .ok { r with lost := r.lost.filter (fun x => x != n), trays := r.trays.set t (Vbenai.trayAt r t ++ [n]) } := by
      simp only [Vbenai.stepped, e, Bool.true_eq_false, if_false]
    refine sq_ret (ans_val (val_call (va_1 (val_var rfl)) (full_log_p R))) val_c (fun e => q3 _ hst (dt e)) (fun e6 => ?_)
    have e6 := df e6
    obtain ⟨j, j1, j2, j3⟩ := remove_at (by simpa using e) (lost_nd I)
    refine ⟨_, rfl, a, C, _, _, _, rfl, R.ob, T.cl, T.nLost, f_lost A, .inl ⟨rfl, _, SqL.of R.ds⟩, _, rfl, A.sd, r.lost.map fun (n : Nat) => (n : Int), (n : Int), j, rfl, rfl, by rw [← nv_int]; exact R.ds, by rw [List.getElem?_map, j1]; rfl, fun m hm z => ?_, ?_⟩
    · rw [List.getElem?_map] at z
      cases y : r.lost[m]? with
      | none => rw [y] at z; cases z
      | some x =>
        rw [y] at z
        have z2 : (x : Int) = (n : Int) := Option.some.inj z
        have z3 : x = n := by omega
        rw [z3] at y
        exact j2 m hm y
    have ee : ((r.lost.map fun (n : Nat) => (n : Int)).eraseIdx j).map V.int = nv (r.lost.filter fun x => x != n) := by
      rw [← j3, nv_int, map_erase]
    rw [ee]
    have R1 := R.setLost (r.lost.filter fun x => x != n)
    have F1 : Fr H a A (upd H A.sd (.lst (nv (r.lost.filter fun x => x != n)))) A := Fr.at_ (List.mem_of_getElem? (show (a :: A.mut)[5]? = some A.sd from rfl))
    obtain ⟨ta', hta', hTa'⟩ := R1.trayOf (i := t) t1
    refine sq_app (v_tray R1 T (val_var rfl) (val_var rfl) hta') (val_var rfl) hTa' (by rw [nv_len]; exact Nat.le_trans (I.trl t1) (by decide)) ?_
    have R2 := R1.tray hta' (Vbenai.trayAt r t ++ [n])
    have F2 := F1.trans (Fr.at_ (o := .lst (nv (Vbenai.trayAt r t ++ [n]))) (im_ts hta'))
    rw [nv_app] at R2 F2
    refine st_ret val_c ?_
    exact q4 _ hst (by omega) _ _ R2 F2
end
end Cc

set_option Elab.async false
set_option linter.all false
set_option maxRecDepth 100000
set_option maxHeartbeats 4000000
namespace Cc
open PySem PySem.Spec PyProof.Rows L2
open VbenCore (isBetween)

section
variable {C : Addr} {H : Hp} {a : Addr} {A : Ad} {r : Vbenai.Room} {log : List Vbenai.Event}
theorem Rows.alive {as : List Addr} {L : List (List V)} (R : Rows H as L) {x : Addr} (hx : x ∈ as) : H x ≠ none := by
  obtain ⟨i, hi⟩ := List.getElem?_of_mem hx
  have h1 := (List.getElem?_eq_some_iff.mp hi).1
  rw [R.2 i x _ hi (List.getElem?_eq_getElem (by rw [← R.1]; exact h1))]
  simp
theorem RoomAt.alive (R : RoomAt C H a A r log) {x : Addr} (hx : x ∈ a :: A.own) : H x ≠ none := by
  simp only [Ad.own, List.mem_cons, List.mem_append, List.not_mem_nil, or_false] at hx
  rcases hx with rfl | (rfl | rfl | rfl | rfl | rfl | rfl) | h | h | h
  · rw [R.ob]; simp
  · rw [R.dc]; simp
  · rw [R.dt]; simp
  · rw [R.dh]; simp
  · rw [R.dl]; simp
  · rw [R.ds]; simp
  · rw [R.dj]; simp
  · exact R.tt.alive h
  · exact R.hh.alive h
  · exact R.jj.alive h
/-- the trays are put anew: a new list at D of new rows ps -/
theorem RoomAt.setTrays {H0 : Hp} (R0 : RoomAt C H0 a A r log) (k : Same H0 H) {Dl : Addr} {ps : List Addr} {L : List (List Nat)} (hD : H Dl = some (.lst (ps.map V.ref))) (hp : Rows H ps (L.map nv)) (nd : (Dl :: ps).Nodup) (fr : ∀ p ∈ Dl :: ps, H0 p = none) :
    RoomAt C (upd H a (.ins C A.dx (putF "trays" (.ref Dl) A.flds))) a { A with td := Dl, ts := ps } { r with trays := L } log ∧ Fr H0 a A (upd H a (.ins C A.dx (putF "trays" (.ref Dl) A.flds))) { A with td := Dl, ts := ps } := by
  have R := R0.same k
  have na : ∀ {x : Addr} {o : HO}, H x = some o → x ≠ a → upd H a (.ins C A.dx (putF "trays" (.ref Dl) A.flds)) x = some o := fun h n => by rw [upd_ne n]; exact h
  have n7 : ∀ {m : Nat} {x : Addr}, (a :: A.own)[m]? = some x → m ≠ 0 → x ≠ a := fun hx hm => ne_at R.nd hx (show (a :: A.own)[0]? = some a from rfl) hm
  have nD : ∀ p ∈ Dl :: ps, p ≠ a := fun p hp e => R0.alive (List.mem_cons_self (a := a) (l := A.own)) (by rw [← e]; exact fr p hp)
  have ef : putF ("trays" : Str) (.ref Dl) A.flds = ({ A with td := Dl, ts := ps } : Ad).flds := by
    unfold Ad.flds
    rw [put_past (show ¬ ("cards" : Str) = "trays" by decide +kernel), put_here]
  refine ⟨⟨by rw [upd_same, ef], na R.dc (n7 (m := 1) rfl (by decide)), R.cl, fun i t x h1 h2 => na (R.ct i t x h1 h2) (ne_of (R.ct i t x h1 h2) R.ob (by intro q; cases q)), na hD (nD Dl List.mem_cons_self), hp.off fun t ht => nD t (List.mem_cons_of_mem _ ht),
    na R.dh (n7 (m := 3) rfl (by decide)), R.hh.off fun t ht => ?_, na R.dl (n7 (m := 4) rfl (by decide)), na R.ds (n7 (m := 5) rfl (by decide)), na R.dj (n7 (m := 6) rfl (by decide)), R.jj.off fun t ht => ?_, ?_⟩, ?_⟩
  · obtain ⟨i, hi⟩ := List.getElem?_of_mem ht
    exact n7 (p_hs hi) (by omega)
  · obtain ⟨i, hi⟩ := List.getElem?_of_mem ht
    exact n7 (p_js hi) (by omega)
  · refine List.nodup_iff_count.mpr fun x => ?_
    have c1 := List.nodup_iff_count.mp R.nd x
    have c2 := List.nodup_iff_count.mp nd x
    have c3 : (a :: A.own).count x = 0 ∨ (Dl :: ps).count x = 0 := Classical.byContradiction fun z => R0.alive (x := x) (List.count_pos_iff.mp (by omega)) (fr x (List.count_pos_iff.mp (by omega)))
    simp only [Ad.own, List.count_append, List.count_cons, List.count_nil] at c1 c2 c3 ⊢
    omega
  · refine ⟨fun b o h n => na (k b o h) (fun e => n (by rw [e]; exact List.mem_cons_self)), fun b hb => ?_, fun b hb => ?_, fun b h => upd_dm b (Same.dm k b h)⟩
    rotate_left
    · simp only [Ad.mut, List.mem_cons, List.mem_append, List.not_mem_nil, or_false] at hb ⊢
      rcases hb with (rfl | rfl | rfl | rfl | rfl | rfl) | h | h
      · simp
      · exact .inr (fr b List.mem_cons_self)
      · simp
      · simp
      · simp
      · simp
      · exact .inr (fr b (List.mem_cons_of_mem _ h))
      · simp [h]
    simp only [Ad.own, List.mem_cons, List.mem_append, List.not_mem_nil, or_false] at hb ⊢
    rcases hb with (rfl | rfl | rfl | rfl | rfl | rfl) | h | h | h
    · simp
    · exact .inr (fr b List.mem_cons_self)
    · simp
    · simp
    · simp
    · simp
    · exact .inr (fr b (List.mem_cons_of_mem _ h))
    · simp [h]
    · simp [h]
theorem RoomAt.setHands {H0 : Hp} (R0 : RoomAt C H0 a A r log) (k : Same H0 H) {Dl : Addr} {ps : List Addr} {L : List (List Nat)} (hD : H Dl = some (.lst (ps.map V.ref))) (hp : Rows H ps (L.map nv)) (nd : (Dl :: ps).Nodup) (fr : ∀ p ∈ Dl :: ps, H0 p = none) :
    RoomAt C (upd H a (.ins C A.dx (putF "hands" (.ref Dl) A.flds))) a { A with hd := Dl, hs := ps } { r with hands := L } log ∧ Fr H0 a A (upd H a (.ins C A.dx (putF "hands" (.ref Dl) A.flds))) { A with hd := Dl, hs := ps } := by
  have R := R0.same k
  have na : ∀ {x : Addr} {o : HO}, H x = some o → x ≠ a → upd H a (.ins C A.dx (putF "hands" (.ref Dl) A.flds)) x = some o := fun h n => by rw [upd_ne n]; exact h
  have n7 : ∀ {m : Nat} {x : Addr}, (a :: A.own)[m]? = some x → m ≠ 0 → x ≠ a := fun hx hm => ne_at R.nd hx (show (a :: A.own)[0]? = some a from rfl) hm
  have nD : ∀ p ∈ Dl :: ps, p ≠ a := fun p hp e => R0.alive (List.mem_cons_self (a := a) (l := A.own)) (by rw [← e]; exact fr p hp)
  have ef : putF ("hands" : Str) (.ref Dl) A.flds = ({ A with hd := Dl, hs := ps } : Ad).flds := by
    unfold Ad.flds
    rw [put_past (show ¬ ("cards" : Str) = "hands" by decide +kernel), put_past (show ¬ ("trays" : Str) = "hands" by decide +kernel), put_here]
  refine ⟨⟨by rw [upd_same, ef], na R.dc (n7 (m := 1) rfl (by decide)), R.cl, fun i t x h1 h2 => na (R.ct i t x h1 h2) (ne_of (R.ct i t x h1 h2) R.ob (by intro q; cases q)), na R.dt (n7 (m := 2) rfl (by decide)), R.tt.off fun t ht => ?_,
    na hD (nD Dl List.mem_cons_self), hp.off fun t ht => nD t (List.mem_cons_of_mem _ ht), na R.dl (n7 (m := 4) rfl (by decide)), na R.ds (n7 (m := 5) rfl (by decide)), na R.dj (n7 (m := 6) rfl (by decide)), R.jj.off fun t ht => ?_, ?_⟩, ?_⟩
  · obtain ⟨i, hi⟩ := List.getElem?_of_mem ht
    exact n7 (p_ts hi) (by omega)
  · obtain ⟨i, hi⟩ := List.getElem?_of_mem ht
    exact n7 (p_js hi) (by omega)
  · refine List.nodup_iff_count.mpr fun x => ?_
    have c1 := List.nodup_iff_count.mp R.nd x
    have c2 := List.nodup_iff_count.mp nd x
    have c3 : (a :: A.own).count x = 0 ∨ (Dl :: ps).count x = 0 := Classical.byContradiction fun z => R0.alive (x := x) (List.count_pos_iff.mp (by omega)) (fr x (List.count_pos_iff.mp (by omega)))
    simp only [Ad.own, List.count_append, List.count_cons, List.count_nil] at c1 c2 c3 ⊢
    omega
  · refine ⟨fun b o h n => na (k b o h) (fun e => n (by rw [e]; exact List.mem_cons_self)), fun b hb => ?_, fun b hb => ?_, fun b h => upd_dm b (Same.dm k b h)⟩
    rotate_left
    · simp only [Ad.mut, List.mem_cons, List.mem_append, List.not_mem_nil, or_false] at hb ⊢
      rcases hb with (rfl | rfl | rfl | rfl | rfl | rfl) | h | h
      · simp
      · simp
      · exact .inr (fr b List.mem_cons_self)
      · simp
      · simp
      · simp
      · simp [h]
      · exact .inr (fr b (List.mem_cons_of_mem _ h))
    simp only [Ad.own, List.mem_cons, List.mem_append, List.not_mem_nil, or_false] at hb ⊢
    rcases hb with (rfl | rfl | rfl | rfl | rfl | rfl) | h | h | h
    · simp
    · simp
    · exact .inr (fr b List.mem_cons_self)
    · simp
    · simp
    · simp
    · simp [h]
    · exact .inr (fr b (List.mem_cons_of_mem _ h))
    · simp [h]
end
/-- [without(row, n) for row in ..], as far as it is -/
def Wos (H0 : Hp) (D : Addr) (L : List (List Nat)) (n : Nat) (i : Nat) (H' : Hp) : Prop := ∃ ps : List Addr, ps.length = i ∧ (D :: ps).Nodup ∧ (∀ p ∈ D :: ps, H0 p = none) ∧
  (∀ (j : Nat) (p : Addr) (l : List Nat), ps[j]? = some p → L[j]? = some l → H' p = some (.lst (nv (l.filter fun x => x != n)))) ∧ H' D = some (.lst (ps.map V.ref)) ∧ Same H0 H'
theorem wos0 {H : Hp} {D : Addr} {L : List (List Nat)} {n : Nat} (h : H D = none) : Wos H D L n 0 (upd H D (.lst [])) :=
  ⟨[], rfl, by simp, fun p hp => by simp at hp; rw [hp]; exact h, fun j p l h1 => by simp at h1, upd_same, same_new h⟩
theorem wos_turn {H0 H' H2 : Hp} {D p : Addr} {L : List (List Nat)} {l : List Nat} {n i : Nat} (W : Wos H0 D L n i H') (hl : L[i]? = some l) (hp : H' p = none) (s2 : Same H' H2) (h2 : H2 p = some (.lst (nv (l.filter fun x => x != n)))) (hi : i < 100) :
    ∃ acc, H2 D = some (.lst acc) ∧ acc.length < sizeLine ∧ Wos H0 D L n (i + 1) (upd H2 D (.lst (acc ++ [.ref p]))) := by
  obtain ⟨ps, el, nd, h0, h1, hD, h3⟩ := W
  have nD : D ≠ p := ne_of_none hD hp
  have np : ∀ q ∈ ps, q ≠ p := fun q hq => by
    obtain ⟨j, hj⟩ := List.getElem?_of_mem hq
    have hjl := (List.getElem?_eq_some_iff.mp hj).1
    have hLi := (List.getElem?_eq_some_iff.mp hl).1
    exact ne_of_none (h1 j q _ hj (List.getElem?_eq_getElem (by omega))) hp
  have nq : ∀ q ∈ ps, q ≠ D := fun q hq e => (List.nodup_cons.mp nd).1 (e ▸ hq)
  refine ⟨ps.map V.ref, s2 _ _ hD, by rw [List.length_map, el]; exact small1000 (by omega), ps ++ [p], by simp [el], ?_, ?_, ?_, by rw [upd_same, List.map_append]; rfl, ?_⟩
  · rw [← List.cons_append, List.nodup_append]
    refine ⟨nd, by simp, fun x hx y hy => ?_⟩
    simp only [List.mem_cons, List.not_mem_nil, or_false] at hy
    subst hy
    rcases List.mem_cons.mp hx with e | m
    · rw [e]; exact nD
    · exact np x m
  · intro q hq
    rcases List.mem_cons.mp hq with e | m
    · exact h0 q (by rw [e]; exact List.mem_cons_self)
    · rcases List.mem_append.mp m with m | m
      · exact h0 q (List.mem_cons_of_mem _ m)
      · simp at m
        subst m
        exact Same.free h3 hp
  · intro j q m hj hm
    by_cases hji : j < i
    · rw [List.getElem?_append_left (by omega)] at hj
      rw [upd_ne (nq q (List.mem_of_getElem? hj))]
      exact s2 _ _ (h1 j q m hj hm)
    · have hjl := (List.getElem?_eq_some_iff.mp hj).1
      rw [List.length_append, el] at hjl
      simp at hjl
      have e : j = i := by omega
      subst e
      rw [← el, List.getElem?_append_right (Nat.le_refl _), Nat.sub_self] at hj
      cases hj
      rw [hl] at hm
      cases hm
      rw [upd_ne nD.symm]
      exact h2
  · intro b o e
    rw [upd_ne (ne_of_none e (h0 D List.mem_cons_self))]
    exact s2 _ _ (h3 b o e)
theorem Wos.rows {H0 H' : Hp} {D : Addr} {L : List (List Nat)} {n : Nat} (W : Wos H0 D L n L.length H') : ∃ ps : List Addr, (D :: ps).Nodup ∧ (∀ p ∈ D :: ps, H0 p = none) ∧ H' D = some (.lst (ps.map V.ref)) ∧ Same H0 H' ∧ Rows H' ps ((L.map fun l => l.filter fun x => x != n).map nv) := by
  obtain ⟨ps, el, nd, h0, h1, hD, h3⟩ := W
  refine ⟨ps, nd, h0, hD, h3, by simp [el], fun i t l hi hl => ?_⟩
  rw [List.map_map, List.getElem?_map] at hl
  cases e : L[i]? with
  | none => rw [e] at hl; cases hl
  | some m =>
    rw [e] at hl
    have q : nv (m.filter fun x => x != n) = l := Option.some.inj hl
    rw [← q]
    exact h1 i t m hi e
section
variable {P : Program} {w : World} {K : PySem.W.Frag} {mg : Str → Option Value} {base : Heap} {C : Addr}
theorem refs_inv {as : List Addr} {i : Nat} {v : V} (h : (as.map V.ref)[i]? = some v) : ∃ t, as[i]? = some t ∧ v = .ref t := by
  rw [List.getElem?_map] at h
  cases e : as[i]? with
  | none => rw [e] at h; cases h
  | some t => rw [e] at h; exact ⟨t, rfl, (Option.some.inj h).symm⟩
theorem sc_lose : FnScope ["room", "n", "row"] ["room", "n"] (defScope (top 30)) := ⟨rfl, rfl, rfl, by decide +kernel, rfl, by decide +kernel, by decide +kernel⟩
theorem g_lose (D : DefAt K mg "lose_card" (top 30)) (T : Txt K mg C) (gN : FnG P w K mg base "is_card_number" 1 ["n"] (spIn 0 999)) (gL : FnG P w K mg base "is_journal_full" 1 ["room"] (spFullLog C)) (gW : FnG P w K mg base "without" 1 ["row", "n"] spWithout) :
    FnG P w K mg base "lose_card" 2 ["room", "n"] (spLose C) := by
  refine D.fn sc_lose (fun _ _ _ _ _ _ us hl => match us, hl with | [_, _], _ => rfl) (fun vs H Q E h => ?_) (fun f cdv Ar outer s H vs Q E hr h => ?_)
  · obtain ⟨_, _, _, _, _, rfl, _⟩ := h
    rfl
  · obtain ⟨a, A, r, log, n, rfl, R, I, q1, q2, q3, q4⟩ := h
    have hu := hu_of hr
    refine ⟨_, pss_cons (ps_if (pt_not (pt_val (pe_fn gN hr (pa_cons (pv 1) pa_nil)))) (pss_one (ps_ret (pe_num (T.at_ 0 rfl)))) pss_nil)
      (pss_cons (ps_if (PW.pt (pw_or (pt_cmp (pc_dnotin hu (pv 1) (pe_fld (pv 0) rfl))) (pw_or1 (pt_cmpR op_in_seq (pv 1) (pe_fld (pv 0) rfl) (by rfl))))) (pss_one (ps_ret (pe_num (T.at_ 8 rfl)))) pss_nil)
      (pss_cons (ps_if (pt_val (pe_fn gL hr (pa_cons (pv 0) pa_nil))) (pss_one (ps_ret (pe_num (T.at_ 10 rfl)))) pss_nil)
      (pss_cons (ps_fld (pv 0) (pe_lc (own := [("row", 2)]) (g := gName 2) (tt := tYes) (by rfl) sc_lose.nd (pi_list (pe_fld (pv 0) rfl)) (blkOk_by (own := [("row", 2)]) (N := ["room", "n", "row"]) (sc := defScope (top 30)) (by decide +kernel))
        (fun _ _ _ _ _ => pg_name (i := 2) sc_lose.nd rfl (Or.inl rfl)) (fun _ _ _ _ _ => pts_nil) (fun _ _ _ _ _ => pe_fn gW hr (pa_cons (pv 2) (pa_cons (pv 1) pa_nil)))) rfl)
      (pss_cons (ps_fld (pv 0) (pe_lc (own := [("row", 2)]) (g := gName 2) (tt := tYes) (by rfl) sc_lose.nd (pi_list (pe_fld (pv 0) rfl)) (blkOk_by (own := [("row", 2)]) (N := ["room", "n", "row"]) (sc := defScope (top 30)) (by decide +kernel))
        (fun _ _ _ _ _ => pg_name (i := 2) sc_lose.nd rfl (Or.inl rfl)) (fun _ _ _ _ _ => pts_nil) (fun _ _ _ _ _ => pe_fn gW hr (pa_cons (pv 2) (pa_cons (pv 1) pa_nil)))) rfl)
      (pss_cons (ps_if (pt_cmp (pc_din hu (pv 1) (pe_fld (pv 0) rfl))) (pss_one (ps_expr (pe_dpop1 (pe_fld (pv 0) rfl) (pv 1) ⟨rfl, rfl, rfl, rfl⟩))) pss_nil)
      (pss_cons (ps_expr (pe_bm PySem.F.plainAttrs_list PySem.F.slot_list_append PySem.F.type_list_append mt_append (pe_fld (pv 0) rfl) (pa_cons (pv 1) pa_nil)))
      (pss_one (ps_ret (pe_num (T.at_ 6 rfl)))))))))), ?_⟩
    refine sq_ret (ans_not (ans_val (val_call (va_1 (val_var rfl)) (in_p (n := n))))) val_c (fun e => q1 (not_t e)) (fun e => ?_)
    have ok := not_f e
    have o1 := btw ok
    obtain ⟨n, rfl⟩ := nat_of o1.1
    have q2 := q2 ok
    have q3 := q3 ok
    have q4 := q4 ok
    simp only [Int.toNat_natCast] at q2 q3 q4
    refine sq_ret (ans_orB (ans_val (val_dnotin (y := .int (n : Int)) (val_var rfl) (val_fld (val_var rfl) R.ob T.cl T.nCards (f_cards A)) (DGet.k (k := Sum.inl (n : Int)) R.dc))) (a_in (neg := false) (val_var rfl) (val_fld (val_var rfl) R.ob T.cl T.nLost (f_lost A)) R.ds)) val_c (fun e => q2 4 ?_) (fun e => ?_)
    · rw [cK_isSome R.cl, Bool.or_eq_true] at e
      simp only [Vbenai.stepped]
      rw [if_pos]
      rcases e with e | e
      · left
        have e := not_t e
        cases y : Vbenai.cardOf r n with
        | none => rfl
        | some x => rw [y] at e; cases e
      · exact .inr e
    rw [cK_isSome R.cl, Bool.or_eq_false_iff] at e
    have e1 := not_f e.1
    have e2 : r.lost.contains n = false := e.2
    have hst : Vbenai.stepped r (.lose n) = .ok { r with trays := r.trays.map (fun l => l.filter fun x => x != n), hands := r.hands.map (fun l => l.filter fun x => x != n), lent := r.lent.filter (fun x => x.1 != n), lost := r.lost ++ [n] } := by
      simp only [Vbenai.stepped]
      rw [if_neg]
      rintro (z | z)
      · cases y : Vbenai.cardOf r n with
        | none => rw [y] at e1; cases e1
        | some x => rw [y] at z; cases z
      · rw [e2] at z; cases z
    refine sq_ret (ans_val (val_call (va_1 (val_var rfl)) (full_log_p R))) val_c (fun e => q3 _ hst (dt e)) (fun e6 => ?_)
    have e6 := df e6
    -- room.trays = [without(row, n) for row in room.trays]
    refine ⟨_, rfl, a, C, _, _, _, rfl, R.ob, T.cl, T.nTrays, f_trays A, A.td, rfl, ⟨_, SqL.of R.dt⟩, fun D1 hD1 => ?_⟩
    have tl : A.ts.length = r.trays.length := by have := R.tt.1; rw [List.length_map] at this; exact this
    have hl : A.hs.length = r.hands.length := by have := R.hh.1; rw [List.length_map] at this; exact this
    refine lc_list (K := K) (a := A.td) (xs := A.ts.map V.ref) (Wos H D1 r.trays n) (wos0 hD1) (fun i H' _ W => SqL.of (W.choose_spec.2.2.2.2.2 _ _ R.dt)) ?_ ?_
    · rintro i x H' hi W
      obtain ⟨t, ht, rfl⟩ := refs_inv hi
      have hil := (List.getElem?_eq_some_iff.mp ht).1
      obtain ⟨t', ht', hT⟩ := R.trayOf (i := i) (by omega)
      rw [ht] at ht'
      cases ht'
      have hs := W.choose_spec.2.2.2.2.2
      have hli : r.trays[i]? = some (Vbenai.trayAt r i) := by
        unfold Vbenai.trayAt
        rw [List.getD_eq_getElem?_getD, List.getElem?_eq_getElem (by omega)]
        rfl
      refine ⟨rfl, iteT (B := Wos H D1 r.trays n (i + 1) H') ⟨_, rfl, _, rfl, t, Vbenai.trayAt r i, n, rfl, hs _ _ hT, Nat.le_trans (I.trl (by omega)) (by decide), fun p H2 hp s2 h2 => wos_turn W hli hp s2 h2 (by have := I.tr; omega)⟩⟩
    intro H1 W1
    rw [len_refs, tl] at W1
    obtain ⟨ps1, nd1, fr1, hd1, s1, rw1⟩ := W1.rows
    obtain ⟨R1, F1⟩ := R.setTrays s1 hd1 rw1 nd1 fr1
    refine ⟨_, rfl, a, C, _, _, rfl, s1 _ _ R.ob, T.cl, T.nTrays, (by simp [Ad.flds]), ?_⟩
    have I1h : ∀ i, i < r.hands.length → (Vbenai.handAt r i).length ≤ 1000 := fun i hi => Nat.le_trans (I.hal hi) (by decide)
    -- room.hands = ..
    refine ⟨_, rfl, a, C, _, _, _, rfl, R1.ob, T.cl, T.nHands, f_hands _, A.hd, rfl, ⟨_, SqL.of R1.dh⟩, fun D2 hD2 => ?_⟩
    refine lc_list (K := K) (a := A.hd) (xs := A.hs.map V.ref) (Wos (upd H1 a (.ins C A.dx (putF "trays" (.ref D1) A.flds))) D2 r.hands n) (wos0 hD2) (fun i H' _ W => SqL.of (W.choose_spec.2.2.2.2.2 _ _ R1.dh)) ?_ ?_
    · rintro i x H' hi W
      obtain ⟨t, ht, rfl⟩ := refs_inv hi
      have hil := (List.getElem?_eq_some_iff.mp ht).1
      obtain ⟨t', ht', hT⟩ := R1.handOf (i := i) (by show i < r.hands.length; omega)
      have ht'' : A.hs[i]? = some t' := ht'
      rw [ht] at ht''
      cases ht''
      have hs := W.choose_spec.2.2.2.2.2
      have hli : r.hands[i]? = some (Vbenai.handAt r i) := by
        unfold Vbenai.handAt
        rw [List.getD_eq_getElem?_getD, List.getElem?_eq_getElem (by omega)]
        rfl
      refine ⟨rfl, iteT (B := Wos (upd H1 a (.ins C A.dx (putF "trays" (.ref D1) A.flds))) D2 r.hands n (i + 1) H') ⟨_, rfl, _, rfl, t, Vbenai.handAt r i, n, rfl, hs _ _ hT, I1h i (by omega), fun p H2 hp s2 h2 => wos_turn W hli hp s2 h2 (by have := I.hd; omega)⟩⟩
    intro H2 W2
    rw [len_refs, hl] at W2
    obtain ⟨ps2, nd2, fr2, hd2, s2, rw2⟩ := W2.rows
    obtain ⟨R2, F2⟩ := R1.setHands s2 hd2 rw2 nd2 fr2
    refine ⟨_, rfl, a, C, _, _, rfl, s2 _ _ R1.ob, T.cl, T.nHands, (by simp [Ad.flds]), ?_⟩
    have F2 := F1.trans F2
    generalize upd H2 a (.ins C ({ A with td := D1, ts := ps1 } : Ad).dx (putF "hands" (.ref D2) ({ A with td := D1, ts := ps1 } : Ad).flds)) = H3 at R2 F2
    -- if n in room.lent: room.lent.pop(n)
    have fin : ∀ H4 : Hp, RoomAt C H4 a { A with td := D1, ts := ps1, hd := D2, hs := ps2 } { r with trays := r.trays.map (fun l => l.filter fun x => x != n), hands := r.hands.map (fun l => l.filter fun x => x != n), lent := r.lent.filter (fun x => x.1 != n) } log → Fr H a A H4 { A with td := D1, ts := ps1, hd := D2, hs := ps2 } →
        tSeq (tDrop (tBM K "list" rAppend (tFld K (tVar 0) "lost") (tCons (tVar 1) tNil))) (tRet (tC (.int 0))) { nx := fun _ H' => Q .non H', rt := Q } [some (.ref a), some (.int (n : Int)), none] H4 := fun H4 R4 F4 => by
      refine sq_app (val_fld (val_var rfl) R4.ob T.cl T.nLost (f_lost _)) (val_var rfl) R4.ds (by rw [nv_len]; exact Nat.le_trans I.losl (by decide)) ?_
      have R5 := R4.setLost (r.lost ++ [n])
      have F5 := F4.trans (Fr.at_ (o := .lst (nv (r.lost ++ [n]))) (x := A.sd) (List.mem_of_getElem? (show (a :: Ad.mut { A with td := D1, ts := ps1, hd := D2, hs := ps2 })[5]? = some A.sd from rfl)))
      rw [nv_app] at R5 F5
      refine st_ret val_c ?_
      exact q4 _ hst (by omega) _ _ R5 F5
    have hin := ans_val (val_din (σ := [some (.ref a), some (.int (n : Int)), none]) (ty := tVar 1) (y := .int (n : Int)) (val_var rfl) (val_fld (ta := tVar 0) (val_var rfl) R2.ob T.cl T.nLent (f_lent _)) (DGet.k (k := Sum.inl (n : Int)) R2.dl))
    cases hb : (valV (lK r.lent) (Sum.inl (n : Int))).isSome with
    | true =>
      have hb' : (valV (lK ({ r with trays := r.trays.map (fun l => l.filter fun x => x != n), hands := r.hands.map (fun l => l.filter fun x => x != n) } : Vbenai.Room).lent) (Sum.inl (n : Int))).isSome = true := hb
      rw [hb'] at hin
      obtain ⟨v, hv⟩ := Option.isSome_iff_exists.mp hb
      refine sq_yes hin ?_
      refine ⟨_, rfl, a, C, _, _, _, rfl, R2.ob, T.cl, T.nLent, f_lent _, A.ld, rfl, .inl ⟨_, .inl R2.dl⟩, _, rfl, _, Sum.inl (n : Int), v, R2.dl, rfl, hv, ?_⟩
      have R4 := R2.setLent (r.lent.filter fun x => x.1 != n)
      have F4 := F2.trans (Fr.at_ (o := .dK (lK (r.lent.filter fun x => x.1 != n))) (x := A.ld) (List.mem_of_getElem? (show (a :: Ad.mut { A with td := D1, ts := ps1, hd := D2, hs := ps2 })[4]? = some A.ld from rfl)))
      rw [lK_drop]
      exact fin _ R4 F4
    | false =>
      have hb' : (valV (lK ({ r with trays := r.trays.map (fun l => l.filter fun x => x != n), hands := r.hands.map (fun l => l.filter fun x => x != n) } : Vbenai.Room).lent) (Sum.inl (n : Int))).isSome = false := hb
      rw [hb'] at hin
      refine sq_no hin ?_
      rw [lK_isSome] at hb
      have el : r.lent.filter (fun x => x.1 != n) = r.lent := List.filter_eq_self.mpr fun x hx => by
        have := List.any_eq_false.mp hb x hx
        simpa using this
      refine fin _ ?_ F2
      rw [el]
      exact R2
end
end Cc

set_option Elab.async false
set_option linter.all false
set_option maxRecDepth 100000
set_option maxHeartbeats 4000000
namespace Cc
open PySem PySem.Spec PyProof.Rows L2
open VbenCore (isBetween)

/-- a step's row: the step, and whether its numbers are in their ranges -/
def evOf (r : Vbenai.Room) : List Int → Option (Vbenai.Event × Bool)
  | [1, n, t, k] => some (.card n.toNat t.toNat k, isBetween n 0 999 && (isTr r t && isBetween k (-1000) 1000))
  | [2, c, t, p] => some (.take c.toNat t.toNat p.toNat, isCl r c && (isTr r t && isBetween p 0 40))
  | [3, c, h, t, p] => some (.put c.toNat h.toNat t.toNat p.toNat, isCl r c && (isBetween h 0 2 && (isTr r t && isBetween p 0 40)))
  | [4, c, h, w] => some (.lend c.toNat h.toNat w.toNat, isCl r c && (isBetween h 0 2 && isBetween w 0 9))
  | [5, c, n] => some (.back c.toNat n.toNat, isCl r c && isBetween n 0 999)
  | [6, n] => some (.lose n.toNat, isBetween n 0 999)
  | [7, n, t] => some (.find n.toNat t.toNat, isBetween n 0 999 && isTr r t)
  | _ => none
/-- in range: the step may be, and its row is told of it again -/
theorem ev_ok {r : Vbenai.Room} {row : List Int} {e : Vbenai.Event} (h : evOf r row = some (e, true)) : EvOk r.trays.length r.hands.length e ∧ Vbenai.eventRow e = row := by
  unfold evOf at h
  split at h
  · have q := Prod.mk.inj (Option.some.inj h)
    obtain ⟨rfl, q⟩ := q
    obtain ⟨o1, o2, o3⟩ := and3 q
    have o1 := btw o1; have o2 := tr_lt o2; have o3 := btw o3
    refine ⟨⟨by omega, o2.2, o3.1, o3.2⟩, ?_⟩
    simp only [Vbenai.eventRow]
    rw [Int.toNat_of_nonneg o1.1, Int.toNat_of_nonneg o2.1]
  · have q := Prod.mk.inj (Option.some.inj h)
    obtain ⟨rfl, q⟩ := q
    obtain ⟨o1, o2, o3⟩ := and3 q
    have o1 := cl_lt o1; have o2 := tr_lt o2; have o3 := btw o3
    refine ⟨⟨o1.2, o2.2, by omega⟩, ?_⟩
    simp only [Vbenai.eventRow, VbenCore.ints, List.map_cons, List.map_nil]
    rw [Int.toNat_of_nonneg o1.1, Int.toNat_of_nonneg o2.1, Int.toNat_of_nonneg o3.1]
    rfl
  · have q := Prod.mk.inj (Option.some.inj h)
    obtain ⟨rfl, q⟩ := q
    obtain ⟨o1, o4, o2, o3⟩ := and4 q
    have o1 := cl_lt o1; have o2 := tr_lt o2; have o3 := btw o3; have o4 := btw o4
    refine ⟨⟨o1.2, by omega, o2.2, by omega⟩, ?_⟩
    simp only [Vbenai.eventRow, VbenCore.ints, List.map_cons, List.map_nil]
    rw [Int.toNat_of_nonneg o1.1, Int.toNat_of_nonneg o2.1, Int.toNat_of_nonneg o3.1, Int.toNat_of_nonneg o4.1]
    rfl
  · have q := Prod.mk.inj (Option.some.inj h)
    obtain ⟨rfl, q⟩ := q
    obtain ⟨o1, o2, o3⟩ := and3 q
    have o1 := cl_lt o1; have o2 := btw o2; have o3 := btw o3
    refine ⟨⟨o1.2, by omega, by omega⟩, ?_⟩
    simp only [Vbenai.eventRow, VbenCore.ints, List.map_cons, List.map_nil]
    rw [Int.toNat_of_nonneg o1.1, Int.toNat_of_nonneg o2.1, Int.toNat_of_nonneg o3.1]
    rfl
  · have q := Prod.mk.inj (Option.some.inj h)
    obtain ⟨rfl, q⟩ := q
    obtain ⟨o1, o2⟩ := Bool.and_eq_true_iff.mp q
    have o1 := cl_lt o1; have o2 := btw o2
    refine ⟨⟨o1.2, by omega⟩, ?_⟩
    simp only [Vbenai.eventRow, VbenCore.ints, List.map_cons, List.map_nil]
    rw [Int.toNat_of_nonneg o1.1, Int.toNat_of_nonneg o2.1]
    rfl
  · have q := Prod.mk.inj (Option.some.inj h)
    obtain ⟨rfl, q⟩ := q
    have o2 := btw q
    refine ⟨(by show _ ≤ 999; omega), ?_⟩
    simp only [Vbenai.eventRow, VbenCore.ints, List.map_cons, List.map_nil]
    rw [Int.toNat_of_nonneg o2.1]
    rfl
  · have q := Prod.mk.inj (Option.some.inj h)
    obtain ⟨rfl, q⟩ := q
    obtain ⟨o1, o2⟩ := Bool.and_eq_true_iff.mp q
    have o1 := btw o1; have o2 := tr_lt o2
    refine ⟨⟨by omega, o2.2⟩, ?_⟩
    simp only [Vbenai.eventRow, VbenCore.ints, List.map_cons, List.map_nil]
    rw [Int.toNat_of_nonneg o1.1, Int.toNat_of_nonneg o2.1]
    rfl
  · cases h
theorem stepped_err {r : Vbenai.Room} {e : Vbenai.Event} {n : Nat} (h : Vbenai.stepped r e = .error n) : n = 3 ∨ n = 4 ∨ n = 5 := by
  cases e <;> simp only [Vbenai.stepped] at h <;> (repeat' split at h) <;> first | (cases h; done) | (injection h with h; omega)
section
variable {σ : L2.St} {H : Hp} {D : Ends} {sp : Sp} {E : XK} {t : TA} {vs : List V}
theorem st_retc (h : ValA t σ H vs) (hs : sp (vs ++ []) H D.rt E) : tRet (tCall sp [] E t) D σ H := h _ hs
theorem sq_retc {c : TT} {tz : TS} {b : Bool} (hc : Ans c σ H b) (q1 : b = true → ∃ vs, ValA t σ H vs ∧ sp (vs ++ []) H D.rt E) (q2 : b = false → tz D σ H) : tSeq (tIfS c (tRet (tCall sp [] E t)) tNext) tz D σ H := by
  cases b with
  | true =>
    obtain ⟨vs, h, hs⟩ := q1 rfl
    exact sq_yes hc (st_retc (D := { D with nx := tz D }) h hs)
  | false => exact sq_no hc (q2 rfl)
end
/-- try_step: the row of a step is tried -/
def spTry (C : Addr) : Sp := fun vs H Q _ => ∃ (a b : Addr) (A : Ad) (r : Vbenai.Room) (log : List Vbenai.Event) (row : List Int) (e : Vbenai.Event) (ok : Bool), vs = [.ref a, .ref b] ∧ RoomAt C H a A r log ∧ RInv r ∧ H b = some (.lst (row.map V.int)) ∧ evOf r row = some (e, ok) ∧
  StepQ C a A r log ok e H Q
section
variable {P : Program} {w : World} {K : PySem.W.Frag} {mg : Str → Option Value} {base : Heap} {C : Addr}
theorem sc_try : FnScope ["room", "step", "number"] ["room", "step"] (defScope (top 32)) := ⟨rfl, rfl, rfl, by decide +kernel, rfl, by decide +kernel, by decide +kernel⟩
theorem v_at {σ : L2.St} {H : Hp} {te : TE} {b : Addr} {xs : List V} (j : Nat) {v : V} (h : Val te σ H (.ref b)) (hb : H b = some (.lst xs)) (hx : xs[j]? = some v) : Val (tOp (rIxL K) te (tC (.int (j : Int)))) σ H v := val_ixL (j := j) h val_c (SqL.of hb) rfl hx
theorem g_try (D : DefAt K mg "try_step" (top 32)) (g1 : FnG P w K mg base "add_card" 2 ["room", "n", "home", "key"] (spAdd C)) (g2 : FnG P w K mg base "take_card" 2 ["room", "c", "t", "p"] (spTake C)) (g3 : FnG P w K mg base "put_card" 2 ["room", "c", "h", "t", "p"] (spPut C))
    (g4 : FnG P w K mg base "lend_card" 2 ["room", "c", "h", "who"] (spLend C)) (g5 : FnG P w K mg base "get_back" 2 ["room", "c", "n"] (spBack C)) (g6 : FnG P w K mg base "lose_card" 2 ["room", "n"] (spLose C)) (g7 : FnG P w K mg base "find_card" 2 ["room", "n", "t"] (spFind C)) :
    FnG P w K mg base "try_step" 3 ["room", "step"] (spTry C) := by
  refine D.fn sc_try (fun _ _ _ _ _ _ us hl => match us, hl with | [_, _], _ => rfl) (fun vs H Q E h => ?_) (fun f cdv Ar outer s H vs Q E hr h => ?_)
  · obtain ⟨_, _, _, _, _, _, _, _, rfl, _⟩ := h
    rfl
  · obtain ⟨a, b, A, r, log, row, e, ok, rfl, R, I, hb, he, q⟩ := h
    refine ⟨_, pss_cons (ps_set (i := 2) sc_try.nd rfl (Or.inl rfl) (pe_ix ix_list (pv 1) pe_int (fun _ _ => rfl)))
      (pss_cons (ps_if (pt_cmpR op_eq (pv 2) pe_int (nomark _)) (pss_one (ps_ret (pe_fn g1 hr (pa_cons (pv 0) (pa_cons (pe_ix ix_list (pv 1) pe_int (fun _ _ => rfl)) (pa_cons (pe_ix ix_list (pv 1) pe_int (fun _ _ => rfl)) (pa_cons (pe_ix ix_list (pv 1) pe_int (fun _ _ => rfl)) pa_nil))))))) pss_nil)
      (pss_cons (ps_if (pt_cmpR op_eq (pv 2) pe_int (nomark _)) (pss_one (ps_ret (pe_fn g2 hr (pa_cons (pv 0) (pa_cons (pe_ix ix_list (pv 1) pe_int (fun _ _ => rfl)) (pa_cons (pe_ix ix_list (pv 1) pe_int (fun _ _ => rfl)) (pa_cons (pe_ix ix_list (pv 1) pe_int (fun _ _ => rfl)) pa_nil))))))) pss_nil)
      (pss_cons (ps_if (pt_cmpR op_eq (pv 2) pe_int (nomark _)) (pss_one (ps_ret (pe_fn g3 hr (pa_cons (pv 0) (pa_cons (pe_ix ix_list (pv 1) pe_int (fun _ _ => rfl)) (pa_cons (pe_ix ix_list (pv 1) pe_int (fun _ _ => rfl)) (pa_cons (pe_ix ix_list (pv 1) pe_int (fun _ _ => rfl)) (pa_cons (pe_ix ix_list (pv 1) pe_int (fun _ _ => rfl)) pa_nil)))))))) pss_nil)
      (pss_cons (ps_if (pt_cmpR op_eq (pv 2) pe_int (nomark _)) (pss_one (ps_ret (pe_fn g4 hr (pa_cons (pv 0) (pa_cons (pe_ix ix_list (pv 1) pe_int (fun _ _ => rfl)) (pa_cons (pe_ix ix_list (pv 1) pe_int (fun _ _ => rfl)) (pa_cons (pe_ix ix_list (pv 1) pe_int (fun _ _ => rfl)) pa_nil))))))) pss_nil)
      (pss_cons (ps_if (pt_cmpR op_eq (pv 2) pe_int (nomark _)) (pss_one (ps_ret (pe_fn g5 hr (pa_cons (pv 0) (pa_cons (pe_ix ix_list (pv 1) pe_int (fun _ _ => rfl)) (pa_cons (pe_ix ix_list (pv 1) pe_int (fun _ _ => rfl)) pa_nil)))))) pss_nil)
      (pss_cons (ps_if (pt_cmpR op_eq (pv 2) pe_int (nomark _)) (pss_one (ps_ret (pe_fn g6 hr (pa_cons (pv 0) (pa_cons (pe_ix ix_list (pv 1) pe_int (fun _ _ => rfl)) pa_nil))))) pss_nil)
      (pss_one (ps_ret (pe_fn g7 hr (pa_cons (pv 0) (pa_cons (pe_ix ix_list (pv 1) pe_int (fun _ _ => rfl)) (pa_cons (pe_ix ix_list (pv 1) pe_int (fun _ _ => rfl)) pa_nil)))))))))))), ?_⟩
    have go : ∀ (x : Int) (xs : List Int), row = x :: xs → ∀ {tz : TS}, tz { nx := fun _ H' => Q .non H', rt := Q } [some (.ref a), some (.ref b), some (.int x)] H → tSeq (tAsg (tOp (rIxL K) (tVar 1) (tC (.int 0))) (gName 2)) tz { nx := fun _ H' => Q .non H', rt := Q } [some (.ref a), some (.ref b), none] H := fun x xs e tz k => by
      subst e
      exact v_at 0 (val_var rfl) hb rfl _ k
    have no : ∀ (x y : Int) {t1 tz : TS} {D : Ends}, x ≠ y → tz D [some (.ref a), some (.ref b), some (.int x)] H → tSeq (tIfS (tTest (tOp rEq (tVar 2) (tC (.int y)))) t1 tNext) tz D [some (.ref a), some (.ref b), some (.int x)] H := fun x y _ _ _ n k =>
      sq_no ((a_eq (val_var rfl) val_c).to (decide_eq_false n)) k
    have yes : ∀ (x : Int) {sp : Sp} {t : TA} {vs : List V} {tz : TS} {D : Ends}, ValA t [some (.ref a), some (.ref b), some (.int x)] H vs → sp (vs ++ []) H D.rt E0 → tSeq (tIfS (tTest (tOp rEq (tVar 2) (tC (.int x)))) (tRet (tCall sp [] E0 t)) tNext) tz D [some (.ref a), some (.ref b), some (.int x)] H := fun x _ _ _ _ _ h k =>
      sq_yes ((a_eq (val_var rfl) val_c).to (decide_eq_true rfl)) (st_retc h k)
    unfold evOf at he
    split at he
    · obtain ⟨rfl, rfl⟩ := Prod.mk.inj (Option.some.inj he)
      refine go _ _ rfl ?_
      exact yes 1 (va_cons (val_var rfl) (va_cons (v_at 1 (val_var rfl) hb rfl) (va_cons (v_at 2 (val_var rfl) hb rfl) (va_1 (v_at 3 (val_var rfl) hb rfl))))) ⟨a, A, r, log, _, _, _, rfl, R, I, q⟩
    · obtain ⟨rfl, rfl⟩ := Prod.mk.inj (Option.some.inj he)
      refine go _ _ rfl (no _ _ (by decide) ?_)
      exact yes 2 (va_cons (val_var rfl) (va_cons (v_at 1 (val_var rfl) hb rfl) (va_cons (v_at 2 (val_var rfl) hb rfl) (va_1 (v_at 3 (val_var rfl) hb rfl))))) ⟨a, A, r, log, _, _, _, rfl, R, I, q⟩
    · obtain ⟨rfl, rfl⟩ := Prod.mk.inj (Option.some.inj he)
      refine go _ _ rfl (no _ _ (by decide) (no _ _ (by decide) ?_))
      exact yes 3 (va_cons (val_var rfl) (va_cons (v_at 1 (val_var rfl) hb rfl) (va_cons (v_at 2 (val_var rfl) hb rfl) (va_cons (v_at 3 (val_var rfl) hb rfl) (va_1 (v_at 4 (val_var rfl) hb rfl)))))) ⟨a, A, r, log, _, _, _, _, rfl, R, I, q⟩
    · obtain ⟨rfl, rfl⟩ := Prod.mk.inj (Option.some.inj he)
      refine go _ _ rfl (no _ _ (by decide) (no _ _ (by decide) (no _ _ (by decide) ?_)))
      exact yes 4 (va_cons (val_var rfl) (va_cons (v_at 1 (val_var rfl) hb rfl) (va_cons (v_at 2 (val_var rfl) hb rfl) (va_1 (v_at 3 (val_var rfl) hb rfl))))) ⟨a, A, r, log, _, _, _, rfl, R, I, q⟩
    · obtain ⟨rfl, rfl⟩ := Prod.mk.inj (Option.some.inj he)
      refine go _ _ rfl (no _ _ (by decide) (no _ _ (by decide) (no _ _ (by decide) (no _ _ (by decide) ?_))))
      exact yes 5 (va_cons (val_var rfl) (va_cons (v_at 1 (val_var rfl) hb rfl) (va_1 (v_at 2 (val_var rfl) hb rfl)))) ⟨a, A, r, log, _, _, rfl, R, I, q⟩
    · obtain ⟨rfl, rfl⟩ := Prod.mk.inj (Option.some.inj he)
      refine go _ _ rfl (no _ _ (by decide) (no _ _ (by decide) (no _ _ (by decide) (no _ _ (by decide) (no _ _ (by decide) ?_)))))
      exact yes 6 (va_cons (val_var rfl) (va_1 (v_at 1 (val_var rfl) hb rfl))) ⟨a, A, r, log, _, rfl, R, I, q⟩
    · obtain ⟨rfl, rfl⟩ := Prod.mk.inj (Option.some.inj he)
      refine go _ _ rfl (no _ _ (by decide) (no _ _ (by decide) (no _ _ (by decide) (no _ _ (by decide) (no _ _ (by decide) (no _ _ (by decide) ?_))))))
      exact st_retc (va_cons (val_var rfl) (va_cons (v_at 1 (val_var rfl) hb rfl) (va_1 (v_at 2 (val_var rfl) hb rfl)))) ⟨a, A, r, log, _, _, rfl, R, I, q⟩
    · cases he
/-- as Fr, but the room may keep b -/
structure FrX (H : Hp) (a : Addr) (A : Ad) (b : Addr) (H' : Hp) (A' : Ad) : Prop where
  km : ∀ x o, H x = some o → x ∉ a :: A.mut → H' x = some o
  nw : ∀ x ∈ A'.own, x ∈ a :: A.own ∨ H x = none ∨ x = b
  nm : ∀ x ∈ A'.mut, x ∈ a :: A.mut ∨ H x = none
  dm : ∀ x, H x ≠ none → H' x ≠ none
theorem FrX.kp {H : Hp} {a : Addr} {A : Ad} {b : Addr} {H' : Hp} {A' : Ad} (f : FrX H a A b H' A') (x : Addr) (o : HO) (h : H x = some o) (n : x ∉ a :: A.own) : H' x = some o := f.km x o h fun m => n (mut_own' m)
/-- what is due of a step -/
def stepDue (r : Vbenai.Room) (log : List Vbenai.Event) (ok : Bool) (e : Vbenai.Event) : Vbenai.Room × List Vbenai.Event × List Int :=
  if ok = false then (r, log, [-1]) else match Vbenai.stepped r e with
    | .error n => (r, log, [-(n : Int)])
    | .ok r' => if 120 ≤ log.length then (r, log, [-6]) else (r', log ++ [e], [(log.length : Int)])
def spDo (C : Addr) : Sp := fun vs H Q _ => ∃ (a b : Addr) (A : Ad) (r : Vbenai.Room) (log : List Vbenai.Event) (row : List Int) (e : Vbenai.Event) (ok : Bool), vs = [.ref a, .ref b] ∧ RoomAt C H a A r log ∧ RInv r ∧ log.length ≤ 120 ∧ H b = some (.lst (row.map V.int)) ∧ b ∉ a :: A.own ∧ evOf r row = some (e, ok) ∧
  ∀ (p : Addr) (H' : Hp) (A' : Ad), RoomAt C H' a A' (stepDue r log ok e).1 (stepDue r log ok e).2.1 → FrX H a A b H' A' → H p = none → p ∉ a :: A'.own → H' p = some (.lst ((stepDue r log ok e).2.2.map V.int)) → Q (.ref p) H'
theorem sc_do : FnScope ["room", "step", "refusal"] ["room", "step"] (defScope (top 33)) := ⟨rfl, rfl, rfl, by decide +kernel, rfl, by decide +kernel, by decide +kernel⟩
theorem g_do (D : DefAt K mg "do_step" (top 33)) (T : Txt K mg C) (gT : FnG P w K mg base "try_step" 3 ["room", "step"] (spTry C)) : FnG P w K mg base "do_step" 4 ["room", "step"] (spDo C) := by
  refine D.fn sc_do (fun _ _ _ _ _ _ us hl => match us, hl with | [_, _], _ => rfl) (fun vs H Q E h => ?_) (fun f cdv Ar outer s H vs Q E hr h => ?_)
  · obtain ⟨_, _, _, _, _, _, _, _, rfl, _⟩ := h
    rfl
  · obtain ⟨a, b, A, r, log, row, e, ok, rfl, R, I, hlog, hb, nb, he, k⟩ := h
    refine ⟨_, pss_cons (ps_set (i := 2) sc_do.nd rfl (Or.inl rfl) (pe_fn gT hr (pa_cons (pv 0) (pa_cons (pv 1) pa_nil))))
      (pss_cons (ps_if (pt_cmpR op_ne (pv 2) (pe_num (T.at_ 6 rfl)) (nomark _)) (pss_one (ps_ret (pe_lst (pa_cons (pv 2) pa_nil)))) pss_nil)
      (pss_cons (ps_expr (pe_bm PySem.F.plainAttrs_list PySem.F.slot_list_append PySem.F.type_list_append mt_append (pe_fld (pv 0) rfl) (pa_cons (pv 1) pa_nil)))
      (pss_one (ps_ret (pe_lst (pa_cons (pe_op op_sub (pe_callB call_len_seq (by rfl) T.len PySem.boot_len (pa_cons (pe_fld (pv 0) rfl) pa_nil)) pe_int) pa_nil)))))), ?_⟩
    -- a refusal: nothing has changed, a new row of it
    have ref : ∀ n : Int, n ≠ 0 → stepDue r log ok e = (r, log, [n]) → (tSeq (tIfS (tTest (tOp rNe (tVar 2) (tC (.int 0)))) (tRet (tLst (tCons (tVar 2) tNil))) tNext) (tSeq (tDrop (tBM K "list" rAppend (tFld K (tVar 0) "journal") (tCons (tVar 1) tNil))) (tRet (tLst (tCons (tOp (rI0 fun i j => .int (i - j)) (tCB (fun xs H Q => ∃ p ys, xs = [.ref p] ∧ (SqL K H p ys ∨ SqT K H p ys) ∧ Q (.int ys.length) H) (tCons (tFld K (tVar 0) "journal") tNil)) (tC (.int 1))) tNil))))) { nx := fun _ H' => Q .non H', rt := Q } [some (.ref a), some (.ref b), some (.int n)] H := fun n hn hd => by
      refine sq_yes ((a_ne (val_var rfl) val_c).to (by simp [hn])) ?_
      refine ⟨_, rfl, (by show 1 ≤ sizeLine; decide), fun p hp => ?_⟩
      refine k p _ A (by rw [hd]; exact R.same (same_new hp)) ⟨fun x o h _ => same_new hp x o h, fun x h => .inl (List.mem_cons_of_mem _ h), fun x h => .inl (List.mem_cons_of_mem _ h), Same.dm (same_new hp)⟩ hp (fun m => R.alive m hp) (by rw [hd]; exact upd_same)
    refine ⟨_, rfl, _, rfl, a, b, A, r, log, row, e, ok, rfl, R, I, hb, he, fun hk => ?_, fun hk n hs => ?_, fun hk r' hs hj => ?_, fun hk r' hs hj H' A' R' F' => ?_⟩
    · exact ref (-1) (by decide) (by unfold stepDue; rw [if_pos hk])
    · have hn := stepped_err hs
      exact ref (-(n : Int)) (by omega) (by unfold stepDue; rw [if_neg (by rw [hk]; decide), hs])
    · exact ref (-6) (by decide) (by unfold stepDue; rw [if_neg (by rw [hk]; decide), hs]; simp only; rw [if_pos hj])
    · have hd : stepDue r log ok e = (r', log ++ [e], [(log.length : Int)]) := by unfold stepDue; rw [if_neg (by rw [hk]; decide), hs]; simp only; rw [if_neg (by omega)]
      subst hk
      have er := (ev_ok he).2
      have hb' := F'.kp b _ hb nb
      have nb' := F'.out hb nb
      rw [← er] at hb'
      refine sq_no ((a_ne (val_var rfl) val_c).to (by simp)) ?_
      refine sq_app (val_fld (val_var rfl) R'.ob T.cl T.nJournal (f_journal A')) (val_var rfl) R'.dj (by rw [len_refs, R'.jj.1, List.length_map]; omega) ?_
      have R2 := R'.addStep e hb' nb'
      have ej : A'.js.map V.ref ++ [V.ref b] = (A'.js ++ [b]).map V.ref := by rw [List.map_append]; rfl
      rw [ej]
      have F2 : FrX H a A b (upd H' A'.jd (.lst ((A'.js ++ [b]).map V.ref))) { A' with js := A'.js ++ [b] } := by
        have G := F'.trans (Fr.at_ (H := H') (o := .lst ((A'.js ++ [b]).map V.ref)) (x := A'.jd) (List.mem_of_getElem? (show (a :: A'.mut)[6]? = some A'.jd from rfl)))
        refine ⟨G.km, fun x hx => ?_, G.nm, G.dm⟩
        have : x ∈ A'.own ∨ x = b := by
          simp only [Ad.own, List.mem_append, List.mem_cons, List.not_mem_nil, or_false] at hx ⊢
          rcases hx with h | h | h | h | h
          · exact .inl (.inl h)
          · exact .inl (.inr (.inl h))
          · exact .inl (.inr (.inr (.inl h)))
          · exact .inl (.inr (.inr (.inr h)))
          · exact .inr h
        rcases this with h | h
        · rcases G.nw x h with q | q
          · exact .inl q
          · exact .inr (.inl q)
        · exact .inr (.inr h)
      generalize upd H' A'.jd (.lst ((A'.js ++ [b]).map V.ref)) = H2 at R2 F2
      refine ⟨_, rfl, a, C, _, _, _, rfl, R2.ob, T.cl, T.nJournal, f_journal _, A'.jd, _, rfl, .inl (SqL.of R2.dj), _, _, rfl, rfl, (by show 1 ≤ sizeLine; decide), fun p hp => ?_⟩
      have hp0 : H p = none := Classical.byContradiction fun z => F2.dm p z hp
      refine k p _ _ (by rw [hd]; exact R2.same (same_new hp)) ⟨fun x o h n => same_new hp x o (F2.km x o h n), F2.nw, F2.nm, fun x h => Same.dm (same_new hp) x (F2.dm x h)⟩ hp0 (fun m => R2.alive m hp) ?_
      rw [hd, upd_same, len_refs]
      have jl := R'.jj.1
      rw [List.length_map] at jl
      show some (HO.lst [V.int ((((A'.js ++ [b]).length : Nat) : Int) - 1)]) = some (HO.lst [V.int (log.length : Int)])
      rw [List.length_append, jl]
      simp
end
end Cc

set_option Elab.async false
set_option linter.all false
set_option maxRecDepth 100000
set_option maxHeartbeats 4000000
namespace Cc
open PySem PySem.Spec PyProof.Rows L2
open VbenCore (isBetween)

/-- a new list, all else as it was -/
def NewL (H : Hp) (xs : List V) (Q : VK) : Prop := ∀ (p : Addr) (H' : Hp), H p = none → Same H H' → H' p = some (.lst xs) → Q (.ref p) H'
theorem NewL.back {H H1 : Hp} {xs : List V} {Q : VK} (k : NewL H xs Q) (s : Same H H1) : NewL H1 xs Q := fun p H' hp s' h => k p H' (Same.free s hp) (s.trans s') h
section
variable {σ : L2.St} {H : Hp} {D : Ends} {t : TA} {vs : List V} {K : PySem.W.Frag} {tr tx te tl : TE}
theorem st_retLst (h : ValA t σ H vs) (hl : vs.length ≤ 1000) (k : NewL H vs D.rt) : tRet (tLst t) D σ H := h _ ⟨Nat.le_of_lt (sz hl), fun p hp => k p _ hp (same_new hp) upd_same⟩
/-- if c: return [..] -/
theorem sq_retLst {c : TT} {tz : TS} {b : Bool} (hc : Ans c σ H b) (h : ValA t σ H vs) (hl : vs.length ≤ 1000) (q1 : b = true → NewL H vs D.rt) (q2 : b = false → tz D σ H) : tSeq (tIfS c (tRet (tLst t)) tNext) tz D σ H := by
  cases b with
  | true => exact sq_yes hc (st_retLst (D := { D with nx := tz D }) h hl (q1 rfl))
  | false => exact sq_no hc (q2 rfl)
theorem eqV_nat (x n : Nat) : eqV (.int (x : Int)) (.int (n : Int)) = (x == n) := by
  show ((x : Int) == (n : Int)) = (x == n)
  by_cases h : x = n
  · rw [h]; exact (beq_self_eq_true _).trans (beq_self_eq_true _).symm
  · have : ¬ (x : Int) = (n : Int) := by omega
    exact (beq_eq_false_iff_ne.mpr this).trans (beq_eq_false_iff_ne.mpr h).symm
theorem first_at : ∀ {l : List Nat} {n : Nat}, n ∈ l → l[l.idxOf n]? = some n ∧ ∀ m : Nat, m < l.idxOf n → l[m]? ≠ some n
  | [], n, h => by simp at h
  | x :: l, n, h => by
    by_cases e : x = n
    · subst e
      rw [List.idxOf_cons_self]
      exact ⟨rfl, fun m hm => by omega⟩
    · obtain ⟨a, b⟩ := first_at (l := l) (n := n) ((List.mem_cons.mp h).resolve_left fun q => e q.symm)
      rw [List.idxOf_cons, show (x == n) = false by simpa using e, cond_false]
      refine ⟨a, fun m hm => ?_⟩
      cases m with
      | zero => intro q; exact e (Option.some.inj q)
      | succ m => exact b m (by omega)
theorem val_index {l : List Nat} {n : Nat} {b : Addr} (hb : H b = some (.lst (nv l))) (hn : n ∈ l) (h1 : Val tr σ H (.ref b)) (h2 : Val te σ H (.int (n : Int))) : Val (tBM K "list" (rIndex K) tr (tCons te tNil)) σ H (.int ((l.idxOf n : Nat) : Int)) := fun Q q => by
  obtain ⟨a, c⟩ := first_at hn
  refine h1 _ ⟨.inl ⟨rfl, _, SqL.of hb⟩, h2 _ ⟨b, nv l, .int (n : Int), l.idxOf n, .int (n : Int), rfl, rfl, SqL.of hb, rfl, nv_flat l, nv_get a, by rw [eqV_nat]; simp, fun m z hm hz => ?_, q⟩⟩
  obtain ⟨x, hx, rfl⟩ := nv_get_inv hz
  rw [eqV_nat]
  cases e : x == n with
  | false => rfl
  | true =>
    have : x = n := by simpa using e
    rw [this] at hx
    exact absurd hx (c m hm)
/-- [x for x in row if test(x)], numbers, the test leaves the heap -/
theorem lc_filter {l : List Nat} {b : Addr} {j : Nat} {ws : List Nat} {tt : TT} {Q : VK} (p : Nat → Bool) (hsrc : Val tl σ H (.ref b)) (hb : H b = some (.lst (nv l))) (hl : l.length ≤ 1000)
    (hw : ∀ v, wipe ((wipe σ ws).set j (some v)) ws = wipe σ ws) (hj : ∀ v, ((wipe σ ws).set j (some v))[j]? = some (some v))
    (test : ∀ n ∈ l, ∀ H', Same H H' → Ans tt ((wipe σ ws).set j (some (.int (n : Int)))) H' (p n)) (k : NewL H (nv (l.filter p)) Q) : tLc (iList K tl) (gName j) tt (tVar j) ws σ H Q := by
  refine hsrc _ ⟨b, rfl, ⟨_, SqL.of hb⟩, fun Dl hD => ?_⟩
  refine lc_list (K := K) (a := b) (xs := nv l) (fun i H' => Same H H' ∧ H' Dl = some (.lst (nv ((l.take i).filter p)))) ⟨same_new hD, upd_same⟩ (fun i H' _ q => SqL.of (q.1 _ _ hb)) ?_ ?_
  · rintro i x H' hi ⟨s1, h1⟩
    obtain ⟨m, hm, rfl⟩ := nv_get_inv hi
    have hi2 : i < l.length := (List.getElem?_eq_some_iff.mp hm).1
    refine ⟨hw _, ?_⟩
    refine test m (List.mem_of_getElem? hm) H' s1 _ ?_
    have ft := filter_take (p := p) hm
    cases e : p m with
    | false =>
      refine iteF ⟨s1, ?_⟩
      rw [ft, if_neg (by rw [e]; decide), List.append_nil]
      exact h1
    | true =>
      refine iteT ⟨_, hj _, _, h1, ?_, fun b o z => ?_, ?_⟩
      · rw [nv_len]
        refine sz (Nat.le_trans (List.length_filter_le ..) ?_)
        rw [List.length_take]
        omega
      · rw [upd_ne (ne_of_none z hD)]
        exact s1 b o z
      · rw [upd_same, ft, if_pos e, nv_app]
        rfl
  · rintro H' ⟨s1, h1⟩
    rw [nv_len, List.take_length] at h1
    exact k Dl H' hD s1 h1
end
theorem g_pair {σ : L2.St} {H : Hp} {x y : V} {i j : Nat} {Q : L2.St → Hp → Prop} (k : Q ((σ.set i (some x)).set j (some y)) H) : gCons (gName i) (gCons (gName j) gNil) [x, y] σ H Q := ⟨x, [y], rfl, y, [], rfl, rfl, k⟩
/-! ### counted, spot_in -/
def spCounted : Sp := fun vs H Q _ => ∃ (b : Addr) (xs : List V), vs = [.ref b] ∧ H b = some (.lst xs) ∧ xs.length ≤ 1000 ∧ NewL H (.int (xs.length : Int) :: xs) Q
def spotF (L : List (List Nat)) (n : Nat) : Option Nat := (List.range L.length).find? fun t => (L.getD t []).contains n
def spot (L : List (List Nat)) (n : Nat) : List Nat := match spotF L n with
  | some t => [t, (L.getD t []).idxOf n]
  | none => []
def spSpot : Sp := fun vs H Q _ => ∃ (d : Addr) (as : List Addr) (L : List (List Nat)) (n : Nat), vs = [.ref d, .int (n : Int)] ∧ H d = some (.lst (as.map V.ref)) ∧ Rows H as (L.map nv) ∧ NewL H (nv (spot L n)) Q
theorem spotF_at {L : List (List Nat)} {n i : Nat} (hi : i < L.length) (h : (L.getD i []).contains n = true) (hn : ∀ j, j < i → (L.getD j []).contains n = false) : spotF L n = some i := by
  unfold spotF
  rw [List.find?_eq_some_iff_append]
  refine ⟨h, List.range i, (List.range (L.length - i - 1)).map (· + (i + 1)), ?_, fun a ha => by rw [hn a (List.mem_range.mp ha)]; rfl⟩
  have e : L.length = i + (1 + (L.length - i - 1)) := by omega
  conv => lhs; rw [e]
  rw [List.range_add, List.range_add]
  simp only [List.range_one, List.map_append, List.map_cons, List.map_nil, List.map_map, Nat.add_zero]
  refine congrArg (fun z : List Nat => List.range i ++ z) ?_
  show i :: _ = i :: _
  refine congrArg (i :: ·) ?_
  refine List.map_congr_left fun a _ => ?_
  show i + (1 + a) = a + (i + 1)
  omega
theorem spotF_none {L : List (List Nat)} {n : Nat} (hn : ∀ j, j < L.length → (L.getD j []).contains n = false) : spotF L n = none := by
  unfold spotF
  rw [List.find?_eq_none]
  intro x hx
  rw [hn x (List.mem_range.mp hx)]
  decide
theorem getD_of {L : List (List Nat)} {i : Nat} {l : List Nat} (h : L[i]? = some l) : L.getD i [] = l := by
  rw [List.getD_eq_getElem?_getD, h]
  rfl
section
variable {P : Program} {w : World} {K : PySem.W.Frag} {mg : Str → Option Value} {base : Heap} {C : Addr}
theorem sc_counted : FnScope ["row"] ["row"] (defScope (top 1)) := ⟨rfl, rfl, rfl, by decide +kernel, rfl, by decide +kernel, by decide +kernel⟩
theorem g_counted (D : DefAt K mg "counted" (top 1)) (T : Txt K mg C) : FnG P w K mg base "counted" 1 ["row"] spCounted := by
  refine D.fn sc_counted (fun _ _ _ _ _ _ us hl => match us, hl with | [_], _ => rfl) (fun vs H Q E h => ?_) (fun f cdv Ar outer s H vs Q E hr h => ?_)
  · obtain ⟨_, _, rfl, _⟩ := h
    rfl
  · obtain ⟨b, xs, rfl, hb, hl, k⟩ := h
    refine ⟨_, pss_one (ps_ret (pe_op op_cat (pe_lst (pa_cons (pe_callB call_len_seq (by rfl) T.len PySem.boot_len (pa_cons (pv 0) pa_nil)) pa_nil)) (pv 0))), ?_⟩
    refine ⟨_, rfl, b, xs, rfl, .inl (SqL.of hb), (by show 1 ≤ sizeLine; decide), fun p hp => ?_⟩
    have s1 : Same H (upd H p (.lst [.int (xs.length : Int)])) := same_new hp
    refine ⟨_, rfl, p, b, _, _, rfl, rfl, upd_same, s1 _ _ hb, ?_, fun q hq => ?_⟩
    · show 1 + xs.length ≤ sizeLine
      exact Nat.le_trans (show 1 + xs.length ≤ 1001 by omega) (by decide)
    · exact k q _ (Same.free s1 hq) (s1.trans (same_new hq)) upd_same
theorem sc_spot_in : FnScope ["rows", "n", "number", "row"] ["rows", "n"] (defScope (top 3)) := ⟨rfl, rfl, rfl, by decide +kernel, rfl, by decide +kernel, by decide +kernel⟩
theorem g_spot (D : DefAt K mg "spot_in" (top 3)) (T : Txt K mg C) : FnG P w K mg base "spot_in" 1 ["rows", "n"] spSpot := by
  refine D.fn sc_spot_in (fun _ _ _ _ _ _ us hl => match us, hl with | [_, _], _ => rfl) (fun vs H Q E h => ?_) (fun f cdv Ar outer s H vs Q E hr h => ?_)
  · obtain ⟨_, _, _, _, rfl, _⟩ := h
    rfl
  · obtain ⟨d, as, L, n, rfl, hd, R, k⟩ := h
    refine ⟨_, pss_cons (ps_for PassesOwn.never rfl (pi_enum (by rfl) T.enum (pa_cons (pv 0) pa_nil)) (pg_tup rfl (pgs_cons (pg_name (i := 2) sc_spot_in.nd rfl (Or.inl rfl)) (pgs_cons (pg_name (i := 3) sc_spot_in.nd rfl (Or.inl rfl)) pgs_nil))) (pss_one (ps_if (pt_cmpR op_in_seq (pv 1) (pv 3) (by rfl)) (pss_one (ps_ret (pe_lst (pa_cons (pv 2) (pa_cons (pe_bm PySem.F.plainAttrs_list PySem.F.slot_list_index PySem.F.type_list_index mt_index (pv 3) (pa_cons (pv 1) pa_nil)) pa_nil))))) pss_nil)))
      (pss_one (ps_ret (pe_lst pa_nil))), ?_⟩
    refine ⟨_, rfl, d, _, rfl, SqL.of hd, ?_⟩
    have al : as.length = L.length := by have := R.1; rw [List.length_map] at this; exact this
    refine for_it (walk_enum (K := K) (a := d) (xs := as.map V.ref)) (fun i σ H' => ∃ v2 v3 : Option V, σ = [some (.ref d), some (.int (n : Int)), v2, v3] ∧ Same H H' ∧ ∀ j, j < i → (L.getD j []).contains n = false)
      ⟨none, none, rfl, Same.refl H, fun j hj => by omega⟩ (fun i σ H' _ ⟨_, _, _, s1, _⟩ => SqL.of (s1 _ _ hd)) ?_ ?_
    · rintro i x σ H1 H2 hi ⟨v2, v3, rfl, s1, hj⟩ ⟨Tp, y, z, rfl, hT, rfl, h1, h2⟩
      cases h1
      obtain ⟨t, ht, rfl⟩ := refs_inv h2
      rw [len_refs] at hi
      have hli : L[i]? = some (L.getD i []) := by rw [List.getD_eq_getElem?_getD, List.getElem?_eq_getElem (by omega)]; rfl
      have hrow := R.2 i t (nv (L.getD i [])) ht (by rw [List.getElem?_map, hli]; rfl)
      have s2 : Same H (upd H1 Tp (.tup [.int (i : Int), .ref t])) := s1.trans (same_new hT)
      have hrow2 := s2 _ _ hrow
      refine ⟨Tp, _, rfl, SqT.of upd_same, rfl, ?_⟩
      generalize upd H1 Tp (.tup [.int (i : Int), .ref t]) = H2 at s2 hrow2
      refine g_pair ?_
      have hin := a_in (K := K) (neg := false) (σ := [some (.ref d), some (.int (n : Int)), some (.int (i : Int)), some (.ref t)]) (tr := tVar 1) (tx := tVar 3) (n := n) (val_var rfl) (val_var rfl) hrow2
      cases hc : (L.getD i []).contains n with
      | true =>
        refine st_yes (hin.to hc) ?_
        have hmem : n ∈ L.getD i [] := by simpa using hc
        refine st_retLst (va_cons (val_var rfl) (va_1 (val_index hrow2 hmem (val_var rfl) (val_var rfl)))) (by show 2 ≤ 1000; decide) ?_
        refine NewL.back ?_ s2
        have e : spot L n = [i, (L.getD i []).idxOf n] := by
          unfold spot
          rw [spotF_at (by omega) hc hj]
        rw [e] at k
        exact k
      | false =>
        refine st_no (hin.to hc) ?_
        refine ⟨_, _, rfl, s2, fun j hj2 => ?_⟩
        by_cases e : j = i
        · subst e; exact hc
        · exact hj j (by omega)
    · rintro σ H1 ⟨v2, v3, rfl, s1, hj⟩
      rw [len_refs, al] at hj
      refine st_retLst (σ := [some (.ref d), some (.int (n : Int)), v2, v3]) va_nil (by decide) (NewL.back ?_ s1)
      have e : spot L n = [] := by
        unfold spot
        rw [spotF_none hj]
      rw [e] at k
      exact k
end
end Cc

set_option Elab.async false
set_option linter.all false
set_option maxRecDepth 100000
set_option maxHeartbeats 4000000
namespace Cc
open PySem PySem.Spec PyProof.Rows L2
open VbenCore (isBetween)

/-! ### where a card is -/
theorem spotF_out {L : List (List Nat)} {n : Nat} (h : n ∉ L.flatten) : spotF L n = none := spotF_none fun j hj => by
  cases e : (L.getD j []).contains n with
  | false => rfl
  | true => exact absurd (List.mem_flatten.mpr ⟨_, getD_mem hj, by simpa using e⟩) h
theorem spotF_in {L : List (List Nat)} {n : Nat} (h : n ∈ L.flatten) : ∃ t, spotF L n = some t := by
  cases e : spotF L n with
  | some t => exact ⟨t, rfl⟩
  | none =>
    unfold spotF at e
    rw [List.find?_eq_none] at e
    obtain ⟨l, hl, hn⟩ := List.mem_flatten.mp h
    obtain ⟨i, hi⟩ := List.getElem?_of_mem hl
    have := e i (List.mem_range.mpr (List.getElem?_eq_some_iff.mp hi).1)
    rw [getD_of hi] at this
    exact absurd (by simpa using hn) this
theorem spotF_lt {L : List (List Nat)} {n t : Nat} (h : spotF L n = some t) : t < L.length ∧ (L.getD t []).contains n = true := by
  unfold spotF at h
  have z := List.find?_some (p := fun t => (L.getD t []).contains n) h
  exact ⟨List.mem_range.mp (List.mem_of_find?_eq_some h), z⟩
theorem where_eq (r : Vbenai.Room) (n : Nat) : Vbenai.whereIs r n = match spotF r.trays n with
  | some t => some (0, t, (Vbenai.trayAt r t).idxOf n)
  | none => match spotF r.hands n with
    | some c => some (1, c, (Vbenai.handAt r c).idxOf n)
    | none => match r.lent.find? fun x => x.1 == n with
      | some x => some (2, x.2, 0)
      | none => if r.lost.contains n = true then some (3, 0, 0) else none := rfl
section
variable {r : Vbenai.Room} {n : Nat}
theorem where_none (I : RInv r) (h : n ∉ r.cards.map (·.number)) : Vbenai.whereIs r n = none := by
  have c := I.cnt n
  rw [List.count_eq_zero.mpr h] at c
  have h1 : n ∉ r.trays.flatten := List.count_eq_zero.mp (by omega)
  have h2 : n ∉ r.hands.flatten := List.count_eq_zero.mp (by omega)
  have h3 : n ∉ r.lent.map (·.1) := List.count_eq_zero.mp (by omega)
  have h4 : n ∉ r.lost := List.count_eq_zero.mp (by omega)
  have h5 : (r.lent.find? fun x => x.1 == n) = none := by
    rw [List.find?_eq_none]
    intro x hx
    simp only [beq_iff_eq]
    intro e
    exact h3 (List.mem_map.mpr ⟨x, hx, e⟩)
  rw [where_eq, spotF_out h1, spotF_out h2, h5]
  simp [h4]
theorem where_lost (I : RInv r) (h : n ∈ r.lost) : Vbenai.whereIs r n = some (3, 0, 0) := by
  have c := I.cnt n
  have c1 := List.nodup_iff_count.mp I.nd n
  have c2 := count_of_mem h
  have h1 : n ∉ r.trays.flatten := List.count_eq_zero.mp (by omega)
  have h2 : n ∉ r.hands.flatten := List.count_eq_zero.mp (by omega)
  have h3 : n ∉ r.lent.map (·.1) := List.count_eq_zero.mp (by omega)
  have h5 : (r.lent.find? fun x => x.1 == n) = none := by
    rw [List.find?_eq_none]
    intro x hx
    simp only [beq_iff_eq]
    intro e
    exact h3 (List.mem_map.mpr ⟨x, hx, e⟩)
  rw [where_eq, spotF_out h1, spotF_out h2, h5]
  simp [h]
theorem where_lent (I : RInv r) {x : Nat × Nat} (h : (r.lent.find? fun x => x.1 == n) = some x) : Vbenai.whereIs r n = some (2, x.2, 0) := by
  have c := I.cnt n
  have c1 := List.nodup_iff_count.mp I.nd n
  have hm : n ∈ r.lent.map (·.1) := List.mem_map.mpr ⟨x, List.mem_of_find?_eq_some h, by simpa using List.find?_some h⟩
  have c2 := count_of_mem hm
  have h1 : n ∉ r.trays.flatten := List.count_eq_zero.mp (by omega)
  have h2 : n ∉ r.hands.flatten := List.count_eq_zero.mp (by omega)
  rw [where_eq, spotF_out h1, spotF_out h2, h]
theorem where_hand (I : RInv r) {c : Nat} (h : spotF r.hands n = some c) : Vbenai.whereIs r n = some (1, c, (Vbenai.handAt r c).idxOf n) := by
  have k := I.cnt n
  have c1 := List.nodup_iff_count.mp I.nd n
  obtain ⟨h1, h2⟩ := spotF_lt h
  have hm : n ∈ r.hands.flatten := List.mem_flatten.mpr ⟨_, getD_mem h1, by simpa using h2⟩
  have c2 := count_of_mem hm
  have h3 : n ∉ r.trays.flatten := List.count_eq_zero.mp (by omega)
  rw [where_eq, spotF_out h3, h]
theorem where_tray {t : Nat} (h : spotF r.trays n = some t) : Vbenai.whereIs r n = some (0, t, (Vbenai.trayAt r t).idxOf n) := by
  rw [where_eq, h]
theorem tray_left (I : RInv r) (h : n ∈ r.cards.map (·.number)) (h1 : n ∉ r.lost) (h2 : (r.lent.any fun x => x.1 == n) = false) (h3 : spotF r.hands n = none) : ∃ t, spotF r.trays n = some t := by
  refine spotF_in (mem_of_count ?_)
  have c := I.cnt n
  have c2 := count_of_mem h
  have c3 : r.lost.count n = 0 := List.count_eq_zero.mpr h1
  have c4 : (r.lent.map (·.1)).count n = 0 := List.count_eq_zero.mpr fun m => by
    obtain ⟨x, hx, e⟩ := List.mem_map.mp m
    have := List.any_eq_false.mp h2 x hx
    simp at this
    exact this e
  have c5 : r.hands.flatten.count n = 0 := List.count_eq_zero.mpr fun m => by
    obtain ⟨t, ht⟩ := spotF_in m
    rw [h3] at ht
    cases ht
  omega
end
def whereDue (r : Vbenai.Room) (n : Int) : List Int := if isBetween n 0 999 = false then [-1] else match Vbenai.whereIs r n.toNat with
  | none => [4]
  | some x => [(x.1 : Int), (x.2.1 : Int), (x.2.2 : Int)]
def spWhere (C : Addr) : Sp := fun vs H Q _ => ∃ (a : Addr) (A : Ad) (r : Vbenai.Room) (log : List Vbenai.Event) (n : Int), vs = [.ref a, .int n] ∧ RoomAt C H a A r log ∧ RInv r ∧ NewL H ((whereDue r n).map V.int) Q
def spTray (C : Addr) : Sp := fun vs H Q _ => ∃ (a : Addr) (A : Ad) (r : Vbenai.Room) (log : List Vbenai.Event) (t : Int), vs = [.ref a, .int t] ∧ RoomAt C H a A r log ∧ RInv r ∧ NewL H ((if isTr r t = false then [-1] else Vbenai.listRow (Vbenai.trayAt r t.toNat)).map V.int) Q
def spHand (C : Addr) : Sp := fun vs H Q _ => ∃ (a : Addr) (A : Ad) (r : Vbenai.Room) (log : List Vbenai.Event) (c : Int), vs = [.ref a, .int c] ∧ RoomAt C H a A r log ∧ RInv r ∧ NewL H ((if isCl r c = false then [-1] else Vbenai.listRow (Vbenai.handAt r c.toNat)).map V.int) Q
def spAsk (C : Addr) : Sp := fun vs H Q _ => ∃ (a : Addr) (A : Ad) (r : Vbenai.Room) (log : List Vbenai.Event) (t lo hi : Int), vs = [.ref a, .int t, .int lo, .int hi] ∧ RoomAt C H a A r log ∧ RInv r ∧
  NewL H ((if (isTr r t && (isBetween lo (-1000) 1000 && isBetween hi (-1000) 1000)) = false then [-1] else Vbenai.listRow (Vbenai.asked r t.toNat lo hi) ++ Vbenai.listRow (Vbenai.away r t.toNat lo hi)).map V.int) Q
theorem listRow_v (l : List Nat) : (Vbenai.listRow l).map V.int = .int ((nv l).length : Int) :: nv l := by
  unfold Vbenai.listRow
  rw [List.map_cons, ← nv_ints, nv_len]
section
variable {P : Program} {w : World} {K : PySem.W.Frag} {mg : Str → Option Value} {base : Heap} {C : Addr}
theorem sc_where_is : FnScope ["room", "n", "in_hand"] ["room", "n"] (defScope (top 62)) := ⟨rfl, rfl, rfl, by decide +kernel, rfl, by decide +kernel, by decide +kernel⟩
theorem g_where (D : DefAt K mg "where_is" (top 62)) (T : Txt K mg C) (g_is_card_number : FnG P w K mg base "is_card_number" 1 ["n"] (spIn 0 999)) (g_spot_in : FnG P w K mg base "spot_in" 1 ["rows", "n"] spSpot) : FnG P w K mg base "where_is" 2 ["room", "n"] (spWhere C) := by
  refine D.fn sc_where_is (fun _ _ _ _ _ _ us hl => match us, hl with | [_, _], _ => rfl) (fun vs H Q E h => ?_) (fun f cdv Ar outer s H vs Q E hr h => ?_)
  · obtain ⟨_, _, _, _, _, rfl, _⟩ := h
    rfl
  · obtain ⟨a, A, r, log, n, rfl, R, I, k⟩ := h
    have hu := hu_of hr
    refine ⟨_, pss_cons (ps_if (pt_not (pt_val (pe_fn g_is_card_number hr (pa_cons (pv 1) pa_nil)))) (pss_one (ps_ret (pe_lst (pa_cons (pe_num (T.at_ 0 rfl)) pa_nil)))) pss_nil)
      (pss_cons (ps_if (pt_cmp (pc_dnotin hu (pv 1) (pe_fld (pv 0) rfl))) (pss_one (ps_ret (pe_lst (pa_cons (pe_num (T.at_ 5 rfl)) pa_nil)))) pss_nil)
      (pss_cons (ps_if (pt_cmpR op_in_seq (pv 1) (pe_fld (pv 0) rfl) (by rfl)) (pss_one (ps_ret (pe_lst (pa_cons (pe_num (T.at_ 4 rfl)) (pa_cons pe_int (pa_cons pe_int pa_nil)))))) pss_nil)
      (pss_cons (ps_if (pt_cmp (pc_din hu (pv 1) (pe_fld (pv 0) rfl))) (pss_one (ps_ret (pe_lst (pa_cons (pe_num (T.at_ 3 rfl)) (pa_cons (pe_dget hu (pe_fld (pv 0) rfl) (pv 1) (fun _ _ => rfl)) (pa_cons pe_int pa_nil)))))) pss_nil)
      (pss_cons (ps_set (i := 2) sc_where_is.nd rfl (Or.inl rfl) (pe_fn g_spot_in hr (pa_cons (pe_fld (pv 0) rfl) (pa_cons (pv 1) pa_nil))))
      (pss_cons (ps_if (pt_cmpR op_gt (pe_callB call_len_seq (by rfl) T.len PySem.boot_len (pa_cons (pv 2) pa_nil)) pe_int (nomark _)) (pss_one (ps_ret (pe_op op_cat (pe_lst (pa_cons (pe_num (T.at_ 2 rfl)) pa_nil)) (pv 2)))) pss_nil)
      (pss_one (ps_ret (pe_op op_cat (pe_lst (pa_cons (pe_num (T.at_ 1 rfl)) pa_nil)) (pe_fn g_spot_in hr (pa_cons (pe_fld (pv 0) rfl) (pa_cons (pv 1) pa_nil))))))))))), ?_⟩
    unfold whereDue at k
    refine sq_retLst (ans_not (ans_val (val_call (va_1 (val_var rfl)) (in_p (n := n))))) (va_1 val_c) (by show 1 ≤ 1000; decide) (fun e => ?_) (fun e => ?_)
    · rw [if_pos (not_t e)] at k
      exact k
    have ok := not_f e
    rw [if_neg (by rw [ok]; decide)] at k
    have o1 := btw ok
    obtain ⟨n, rfl⟩ := nat_of o1.1
    rw [Int.toNat_natCast] at k
    refine sq_retLst (ans_val (val_dnotin (y := .int (n : Int)) (val_var rfl) (val_fld (val_var rfl) R.ob T.cl T.nCards (f_cards A)) (DGet.k (k := Sum.inl (n : Int)) R.dc))) (va_1 val_c) (by show 1 ≤ 1000; decide) (fun e => ?_) (fun e => ?_)
    · have e := not_t e
      rw [cK_isSome R.cl] at e
      have h0 : n ∉ r.cards.map (·.number) := fun m => by rw [cardOf_isSome.mpr m] at e; cases e
      rw [where_none I h0] at k
      exact k
    have e := not_f e
    rw [cK_isSome R.cl] at e
    have hc := cardOf_isSome.mp e
    refine sq_retLst (a_in (neg := false) (val_var rfl) (val_fld (val_var rfl) R.ob T.cl T.nLost (f_lost A)) R.ds) (va_cons val_c (va_cons val_c (va_1 val_c))) (by show 3 ≤ 1000; decide) (fun e => ?_) (fun e => ?_)
    · rw [where_lost I (by simpa using e)] at k
      exact k
    have hlost : n ∉ r.lost := by simpa using e
    have hin := ans_val (val_din (σ := [some (.ref a), some (.int (n : Int)), none]) (ty := tVar 1) (y := .int (n : Int)) (val_var rfl) (val_fld (ta := tVar 0) (val_var rfl) R.ob T.cl T.nLent (f_lent A)) (DGet.k (k := Sum.inl (n : Int)) R.dl))
    cases hb : (r.lent.find? fun x => x.1 == n) with
    | some x =>
      have hv : valV (lK r.lent) (Sum.inl (n : Int)) = some (.int (x.2 : Int)) := by rw [lK_val, hb]; rfl
      rw [hv] at hin
      refine sq_yes hin (st_retLst (va_cons val_c (va_cons (val_dget (y := .int (n : Int)) (v := .int (x.2 : Int)) (val_fld (val_var rfl) R.ob T.cl T.nLent (f_lent A)) (val_var rfl) ?_) (va_1 val_c))) (by show 3 ≤ 1000; decide) ?_)
      · rw [← hv]
        exact DGet.k (k := Sum.inl (n : Int)) R.dl
      · rw [where_lent I hb] at k
        exact k
    | none =>
      have hv : valV (lK r.lent) (Sum.inl (n : Int)) = none := by rw [lK_val, hb]; rfl
      have hany : (r.lent.any fun x => x.1 == n) = false := by rw [← lK_isSome, hv]; rfl
      rw [hv] at hin
      refine sq_no hin ?_
      refine ⟨_, rfl, a, C, _, _, _, rfl, R.ob, T.cl, T.nHands, f_hands A, _, rfl, A.hd, A.hs, r.hands, n, rfl, R.dh, R.hh, fun p H1 hp s1 h1 => ?_⟩
      have R1 := R.same s1
      have hlen := a_gt (σ := [some (.ref a), some (.int (n : Int)), some (.ref p)]) (v_len (K := K) (te := tVar 2) (val_var rfl) h1) (val_c (v := .int 0))
      cases hh : spotF r.hands n with
      | some c =>
        have es : spot r.hands n = [c, (Vbenai.handAt r c).idxOf n] := by unfold spot; rw [hh]; rfl
        rw [es] at hlen h1
        refine sq_yes (hlen.to rfl) ?_
        refine ⟨(by show 1 ≤ sizeLine; decide), fun q hq => ⟨_, rfl, q, p, _, _, rfl, rfl, upd_same, same_new hq _ _ h1, (by show 3 ≤ sizeLine; decide), fun z hz => ?_⟩⟩
        rw [where_hand I hh] at k
        exact k z _ (Same.free (s1.trans (same_new hq)) hz) (s1.trans ((same_new hq).trans (same_new hz))) upd_same
      | none =>
        have es : spot r.hands n = [] := by unfold spot; rw [hh]
        rw [es] at hlen h1
        refine sq_no (hlen.to rfl) ?_
        obtain ⟨t, ht⟩ := tray_left I hc hlost hany hh
        refine ⟨(by show 1 ≤ sizeLine; decide), fun q hq => ?_⟩
        have s2 : Same H1 (upd H1 q (.lst [.int 0])) := same_new hq
        have R2 := R1.same s2
        refine ⟨_, rfl, a, C, _, _, _, rfl, R2.ob, T.cl, T.nTrays, f_trays A, _, rfl, A.td, A.ts, r.trays, n, rfl, R2.dt, R2.tt, fun u H3 hu3 s3 h3 => ?_⟩
        have es : spot r.trays n = [t, (Vbenai.trayAt r t).idxOf n] := by unfold spot; rw [ht]; rfl
        rw [es] at h3
        refine ⟨q, u, _, _, rfl, rfl, s3 _ _ upd_same, h3, (by show 3 ≤ sizeLine; decide), fun z hz => ?_⟩
        rw [where_tray ht] at k
        exact k z _ (Same.free ((s1.trans s2).trans s3) hz) (((s1.trans s2).trans s3).trans (same_new hz)) upd_same
theorem sc_show_tray : FnScope ["room", "t"] ["room", "t"] (defScope (top 63)) := ⟨rfl, rfl, rfl, by decide +kernel, rfl, by decide +kernel, by decide +kernel⟩
theorem g_show_tray (D : DefAt K mg "show_tray" (top 63)) (T : Txt K mg C) (m_has_tray : MtG P w K mg base C "has_tray" 1 ["self", "t"] (spHasTray C)) (g_counted : FnG P w K mg base "counted" 1 ["row"] spCounted) : FnG P w K mg base "show_tray" 2 ["room", "t"] (spTray C) := by
  refine D.fn sc_show_tray (fun _ _ _ _ _ _ us hl => match us, hl with | [_, _], _ => rfl) (fun vs H Q E h => ?_) (fun f cdv Ar outer s H vs Q E hr h => ?_)
  · obtain ⟨_, _, _, _, _, rfl, _⟩ := h
    rfl
  · obtain ⟨a, A, r, log, t, rfl, R, I, k⟩ := h
    refine ⟨_, pss_cons (ps_if (pt_not (pt_val (pe_mt m_has_tray T.cl hr (pv 0) (pa_cons (pv 1) pa_nil)))) (pss_one (ps_ret (pe_lst (pa_cons (pe_num (T.at_ 0 rfl)) pa_nil)))) pss_nil)
      (pss_one (ps_ret (pe_fn g_counted hr (pa_cons (pe_ix ix_list (pe_fld (pv 0) rfl) (pv 1) (fun _ _ => rfl)) pa_nil)))), ?_⟩
    refine sq_retLst (ans_not (ans_val (val_meth (val_var rfl) R.ob (f_has_tray A) (va_1 (val_var rfl)) (has_tray_p R (t := t))))) (va_1 val_c) (by show 1 ≤ 1000; decide) (fun e => ?_) (fun e => ?_)
    · rw [if_pos (not_t e)] at k
      exact k
    have ok := not_f e
    rw [if_neg (by rw [ok]; decide), listRow_v] at k
    obtain ⟨t0, t1⟩ := tr_lt ok
    obtain ⟨t, rfl⟩ := nat_of t0
    rw [Int.toNat_natCast] at k t1
    obtain ⟨ta, hta, hTa⟩ := R.trayOf (i := t) t1
    exact st_retc (va_1 (v_tray R T (val_var rfl) (val_var rfl) hta)) ⟨ta, _, rfl, hTa, by rw [nv_len]; exact Nat.le_trans (I.trl t1) (by decide), k⟩
theorem sc_show_hand : FnScope ["room", "c"] ["room", "c"] (defScope (top 64)) := ⟨rfl, rfl, rfl, by decide +kernel, rfl, by decide +kernel, by decide +kernel⟩
theorem g_show_hand (D : DefAt K mg "show_hand" (top 64)) (T : Txt K mg C) (m_has_clerk : MtG P w K mg base C "has_clerk" 1 ["self", "c"] (spHasClerk C)) (g_counted : FnG P w K mg base "counted" 1 ["row"] spCounted) : FnG P w K mg base "show_hand" 2 ["room", "c"] (spHand C) := by
  refine D.fn sc_show_hand (fun _ _ _ _ _ _ us hl => match us, hl with | [_, _], _ => rfl) (fun vs H Q E h => ?_) (fun f cdv Ar outer s H vs Q E hr h => ?_)
  · obtain ⟨_, _, _, _, _, rfl, _⟩ := h
    rfl
  · obtain ⟨a, A, r, log, t, rfl, R, I, k⟩ := h
    refine ⟨_, pss_cons (ps_if (pt_not (pt_val (pe_mt m_has_clerk T.cl hr (pv 0) (pa_cons (pv 1) pa_nil)))) (pss_one (ps_ret (pe_lst (pa_cons (pe_num (T.at_ 0 rfl)) pa_nil)))) pss_nil)
      (pss_one (ps_ret (pe_fn g_counted hr (pa_cons (pe_ix ix_list (pe_fld (pv 0) rfl) (pv 1) (fun _ _ => rfl)) pa_nil)))), ?_⟩
    refine sq_retLst (ans_not (ans_val (val_meth (val_var rfl) R.ob (f_has_clerk A) (va_1 (val_var rfl)) (has_clerk_p R (t := t))))) (va_1 val_c) (by show 1 ≤ 1000; decide) (fun e => ?_) (fun e => ?_)
    · rw [if_pos (not_t e)] at k
      exact k
    have ok := not_f e
    rw [if_neg (by rw [ok]; decide), listRow_v] at k
    obtain ⟨t0, t1⟩ := cl_lt ok
    obtain ⟨t, rfl⟩ := nat_of t0
    rw [Int.toNat_natCast] at k t1
    obtain ⟨ta, hta, hTa⟩ := R.handOf (i := t) t1
    exact st_retc (va_1 (v_hand R T (val_var rfl) (val_var rfl) hta)) ⟨ta, _, rfl, hTa, by rw [nv_len]; exact Nat.le_trans (I.hal t1) (by decide), k⟩
end
end Cc

set_option Elab.async false
set_option linter.all false
set_option maxRecDepth 100000
set_option maxHeartbeats 4000000
namespace Cc
open PySem PySem.Spec PyProof.Rows L2
open VbenCore (isBetween)

theorem ans_tt {σ : L2.St} {H : Hp} {te : TE} {b : Bool} (h : Val te σ H (.bl b)) : Ans (tTest te) σ H b := fun Q q => h _ ⟨b, rfl, q⟩
theorem op_inK {X : Cx} {K : PySem.W.Frag} (h : X.K = K := by rfl) : OpR X (compareOp .In) (rIn K false) := by
  subst h
  exact op_in_seq
theorem op_notInK {X : Cx} {K : PySem.W.Frag} (h : X.K = K := by rfl) : OpR X (compareOp .NotIn) (rIn K true) := by
  subst h
  exact op_notIn_seq
theorem card_uniq {cards : List Vbenai.Card} (nd : (cards.map (·.number)).Nodup) {x y : Vbenai.Card} (hx : x ∈ cards) (hy : y ∈ cards) (e : x.number = y.number) : x = y := by
  obtain ⟨i, hi⟩ := List.getElem?_of_mem hx
  obtain ⟨j, hj⟩ := List.getElem?_of_mem hy
  have h1 : (cards.map (·.number))[i]? = some x.number := by rw [List.getElem?_map, hi]; rfl
  have h2 : (cards.map (·.number))[j]? = some x.number := by rw [List.getElem?_map, hj, e]; rfl
  have := nd_ix nd h1 h2
  subst this
  rw [hi] at hj
  exact Option.some.inj hj
theorem cardOf_mem {r : Vbenai.Room} (nd : (r.cards.map (·.number)).Nodup) {x : Vbenai.Card} (hx : x ∈ r.cards) : Vbenai.cardOf r x.number = some x := by
  cases e : Vbenai.cardOf r x.number with
  | none => exact absurd (List.mem_map.mpr ⟨x, hx, rfl⟩) (cardOf_none.mp e)
  | some y =>
    have h1 : y ∈ r.cards := List.mem_of_find?_eq_some e
    have h2 : y.number = x.number := by simpa using List.find?_some (p := fun z : Vbenai.Card => z.number == x.number) e
    rw [card_uniq nd h1 hx h2]
theorem keyOf_mem {r : Vbenai.Room} (nd : (r.cards.map (·.number)).Nodup) {x : Vbenai.Card} (hx : x ∈ r.cards) : Vbenai.keyOf r x.number = x.key := by
  unfold Vbenai.keyOf
  rw [cardOf_mem nd hx]
  rfl
theorem homeOf_mem {r : Vbenai.Room} (nd : (r.cards.map (·.number)).Nodup) {x : Vbenai.Card} (hx : x ∈ r.cards) : Vbenai.homeOf r x.number = x.home := by
  unfold Vbenai.homeOf
  rw [cardOf_mem nd hx]
  rfl
theorem cK_at {cards : List Vbenai.Card} {cs : List Addr} (nd : (cards.map (·.number)).Nodup) (hl : cs.length = cards.length) {i : Nat} {x : Vbenai.Card} {t : Addr} (hx : cards[i]? = some x) (ht : cs[i]? = some t) : valV (cK cards cs) (Sum.inl (x.number : Int)) = some (.ref t) := by
  have hm := List.mem_of_getElem? hx
  have e : (cards.find? fun y => y.number == x.number) = some x := cardOf_mem (r := ⟨cards, [], [], [], []⟩) nd hm
  obtain ⟨j, u, h1, h2, h3⟩ := cK_some hl e
  have n1 : (cards.map (·.number))[i]? = some x.number := by rw [List.getElem?_map, hx]; rfl
  have n2 : (cards.map (·.number))[j]? = some x.number := by rw [List.getElem?_map, h1]; rfl
  have := nd_ix nd n1 n2
  subst this
  rw [ht] at h2
  cases h2
  exact h3
theorem cK_get {cards : List Vbenai.Card} {cs : List Addr} {i : Nat} {k : Key} {v : V} (h : (cK cards cs)[i]? = some (k, v)) : ∃ x t, cards[i]? = some x ∧ cs[i]? = some t ∧ k = Sum.inl (x.number : Int) ∧ v = .ref t := by
  unfold cK at h
  rw [List.getElem?_map] at h
  cases e : (cards.zip cs)[i]? with
  | none => rw [e] at h; cases h
  | some q =>
    rw [e] at h
    obtain ⟨x, t⟩ := q
    have z := Option.some.inj h
    obtain ⟨z1, z2⟩ := Prod.mk.inj z
    rw [List.getElem?_zip_eq_some] at e
    exact ⟨x, t, e.1, e.2, z1.symm, z2.symm⟩
section
variable {C : Addr} {H : Hp} {a : Addr} {A : Ad} {r : Vbenai.Room} {log : List Vbenai.Event} {K : PySem.W.Frag} {σ : L2.St} {tr tx : TE}
/-- key_of, home_of of a card, the dict locked or not -/
theorem v_part {j : Nat} {x : Vbenai.Card} {i : Nat} {t : Addr} {m : Str} {v : V} (ob : H a = some (.ins C A.dx A.flds)) (hm : A.flds.lookup m = none) (hrd : Rd H A.cd (.dK (cK r.cards A.cs))) (nd : (r.cards.map (·.number)).Nodup) (hl : A.cs.length = r.cards.length)
    (hx : r.cards[i]? = some x) (ht : A.cs[i]? = some t) (hT : H t = some (.tup [.int (x.home : Int), .int x.key])) (hv : ([.int (x.home : Int), .int x.key] : List V)[j]? = some v) (h1 : Val tr σ H (.ref a)) (h2 : Val tx σ H (.int (x.number : Int))) :
    Val (tMeth C m (spPart C j) [] E0 tr (tCons tx tNil)) σ H v :=
  val_meth h1 ob hm (va_1 h2) fun Q E q => ⟨a, A.dx, A.cd, t, A.flds, (x.number : Int), _, v, rfl, ob, f_cards A, .inl ⟨_, Sum.inl (x.number : Int), hrd, rfl, (cK_at nd hl hx ht).symm⟩, hT, hv, q⟩
end
/-- y = [x for x in row if test(x)], and what follows -/
theorem sq_filter {σ : L2.St} {H : Hp} {D : Ends} {K : PySem.W.Frag} {tl : TE} {l : List Nat} {b : Addr} {i j : Nat} {ws : List Nat} {tt : TT} {tz : TS} (p : Nat → Bool) (hsrc : Val tl σ H (.ref b)) (hb : H b = some (.lst (nv l))) (hl : l.length ≤ 1000)
    (hw : ∀ v, wipe ((wipe σ ws).set j (some v)) ws = wipe σ ws) (hj : ∀ v, ((wipe σ ws).set j (some v))[j]? = some (some v))
    (test : ∀ n ∈ l, ∀ H', Same H H' → Ans tt ((wipe σ ws).set j (some (.int (n : Int)))) H' (p n)) (k : ∀ (q : Addr) (H' : Hp), H q = none → Same H H' → H' q = some (.lst (nv (l.filter p))) → tz D (σ.set i (some (.ref q))) H') :
    tSeq (tAsg (tLc (iList K tl) (gName j) tt (tVar j) ws) (gName i)) tz D σ H :=
  lc_filter (K := K) (Q := fun x H1 => tz D (σ.set i (some x)) H1) p hsrc hb hl hw hj test k
theorem map_take_filter {cards : List Vbenai.Card} {p : Vbenai.Card → Bool} {i : Nat} {x : Vbenai.Card} (h : cards[i]? = some x) : ((cards.take (i + 1)).filter p).map (·.number) = ((cards.take i).filter p).map (·.number) ++ (if p x = true then [x.number] else []) := by
  have e : cards.take (i + 1) = cards.take i ++ [x] := by
    rw [List.take_add_one, h]
    rfl
  rw [e, List.filter_append, List.map_append, List.filter_cons, List.filter_nil]
  by_cases q : p x = true
  · rw [if_pos q, if_pos q]; rfl
  · rw [if_neg q, if_neg q]; rfl
theorem asked_eq {r : Vbenai.Room} (I : RInv r) {t : Nat} {lo hi : Int} (ht : t < r.trays.length) :
    (Vbenai.trayAt r t).filter (fun n => ((r.cards.filter fun x => decide (lo ≤ x.key) && decide (x.key ≤ hi)).map (·.number)).contains n) = Vbenai.asked r t lo hi := by
  unfold Vbenai.asked
  refine List.filter_congr fun n hn => ?_
  have hc : n ∈ r.cards.map (·.number) := mem_of_count (by
    have c := I.cnt n
    have c1 := count_le_flatten n (getD_mem ht)
    have c2 := count_of_mem hn
    unfold Vbenai.trayAt at c2
    omega)
  obtain ⟨x, hx, rfl⟩ := List.mem_map.mp hc
  rw [keyOf_mem I.nd hx, Bool.eq_iff_iff]
  simp only [List.contains_iff_mem, List.mem_map, List.mem_filter, Bool.and_eq_true, decide_eq_true_eq]
  constructor
  · rintro ⟨y, ⟨hy, h1, h2⟩, e⟩
    rw [card_uniq I.nd hy hx e] at h1 h2
    exact ⟨h1, h2⟩
  · rintro ⟨h1, h2⟩
    exact ⟨x, ⟨hx, h1, h2⟩, rfl⟩
theorem away_eq {r : Vbenai.Room} (I : RInv r) {t : Nat} {lo hi : Int} :
    (((r.cards.filter fun x => decide (lo ≤ x.key) && decide (x.key ≤ hi)).map (·.number)).filter fun n => decide ((Vbenai.homeOf r n : Int) = (t : Int)) && !(Vbenai.trayAt r t).contains n) = Vbenai.away r t lo hi := by
  unfold Vbenai.away
  rw [List.filter_map, List.filter_filter]
  refine congrArg _ (List.filter_congr fun x hx => ?_)
  simp only [Function.comp]
  rw [homeOf_mem I.nd hx, Bool.eq_iff_iff]
  simp only [Bool.and_eq_true, decide_eq_true_eq, beq_iff_eq, Bool.not_eq_true']
  constructor
  · rintro ⟨⟨h1, h2⟩, h3, h4⟩
    exact ⟨by omega, ⟨h3, h4⟩, h2⟩
  · rintro ⟨h1, ⟨h3, h4⟩, h2⟩
    exact ⟨⟨by omega, h2⟩, h3, h4⟩
section
variable {P : Program} {w : World} {K : PySem.W.Frag} {mg : Str → Option Value} {base : Heap} {C : Addr}
theorem sc_ask_tray : FnScope ["room", "t", "lo", "hi", "row", "asked", "there", "away", "n"] ["room", "t", "lo", "hi"] (defScope (top 65)) := ⟨rfl, rfl, rfl, by decide +kernel, rfl, by decide +kernel, by decide +kernel⟩
theorem g_ask (D : DefAt K mg "ask_tray" (top 65)) (T : Txt K mg C) (m_has_tray : MtG P w K mg base C "has_tray" 1 ["self", "t"] (spHasTray C)) (g_is_key : FnG P w K mg base "is_key" 1 ["key"] (spIn (-1000) 1000)) (m_key_of : MtG P w K mg base C "key_of" 1 ["self", "n"] (spPart C 1))
    (m_home_of : MtG P w K mg base C "home_of" 1 ["self", "n"] (spPart C 0)) (g_counted : FnG P w K mg base "counted" 1 ["row"] spCounted) : FnG P w K mg base "ask_tray" 2 ["room", "t", "lo", "hi"] (spAsk C) := by
  refine D.fn sc_ask_tray (fun _ _ _ _ _ _ us hl => match us, hl with | [_, _, _, _], _ => rfl) (fun vs H Q E h => ?_) (fun f cdv Ar outer s H vs Q E hr h => ?_)
  · obtain ⟨_, _, _, _, _, _, _, rfl, _⟩ := h
    rfl
  · obtain ⟨a, A, r, log, t, lo, hi, rfl, R, I, k⟩ := h
    refine ⟨_, pss_cons (ps_if (pt_not (PW.pt (pw_and (pt_val (pe_mt m_has_tray T.cl hr (pv 0) (pa_cons (pv 1) pa_nil))) (pw_and (pt_val (pe_fn g_is_key hr (pa_cons (pv 2) pa_nil))) (pw_and1 (pt_val (pe_fn g_is_key hr (pa_cons (pv 3) pa_nil)))))))) (pss_one (ps_ret (pe_lst (pa_cons (pe_num (T.at_ 0 rfl)) pa_nil)))) pss_nil)
      (pss_cons (ps_set (i := 4) sc_ask_tray.nd rfl (Or.inr rfl) (pe_ix ix_list (pe_fld (pv 0) rfl) (pv 1) (fun _ _ => rfl)))
      (pss_cons (ps_lock (ps_set (i := 5) sc_ask_tray.nd rfl (Or.inr rfl) (pe_lc (own := [("n", 8)]) (g := gName 8) (by rfl) sc_ask_tray.nd (pi_keys (pe_fld (pv 0) rfl)) (blkOk_by (own := [("n", 8)]) (N := ["room", "t", "lo", "hi", "row", "asked", "there", "away", "n"]) (sc := defScope (top 65)) (by decide +kernel)) (fun _ _ _ _ _ => (pg_name (i := 8) sc_ask_tray.nd rfl (Or.inl rfl))) (fun _ _ _ _ _ => (pts_one (pt_chain op_le op_le (pv 2) (pe_mt m_key_of T.cl hr (pv 0) (pa_cons (pv 8) pa_nil)) (pv 3)))) (fun _ _ _ _ _ => (pv 8)))))
      (pss_cons (ps_setLc (i := 6) (own := [("n", 8)]) (g := gName 8) (by rfl) sc_ask_tray.nd rfl rfl (sw_true rfl rfl rfl (by decide +kernel)) (pi_list (pv 4)) (blkOk_by (own := [("n", 8)]) (N := ["room", "t", "lo", "hi", "row", "asked", "there", "away", "n"]) (sc := defScope (top 65)) (by decide +kernel)) (fun _ _ _ _ _ => (pg_name (i := 8) sc_ask_tray.nd rfl (Or.inl rfl))) (fun _ _ _ _ _ => (pts_one (pt_cmpR (op_inK (K := K)) (pv 8) (pv 5) (by rfl)))) (fun _ _ _ _ _ => (pv 8)))
      (pss_cons (ps_setLc (i := 7) (own := [("n", 8)]) (g := gName 8) (by rfl) sc_ask_tray.nd rfl rfl (sw_true rfl rfl rfl (by decide +kernel)) (pi_list (pv 5)) (blkOk_by (own := [("n", 8)]) (N := ["room", "t", "lo", "hi", "row", "asked", "there", "away", "n"]) (sc := defScope (top 65)) (by decide +kernel)) (fun _ _ _ _ _ => (pg_name (i := 8) sc_ask_tray.nd rfl (Or.inl rfl))) (fun _ _ _ _ _ => (pts_one (PW.pt (pw_and (pt_cmpR op_eq (pe_mt m_home_of T.cl hr (pv 0) (pa_cons (pv 8) pa_nil)) (pv 1) (nomark _)) (pw_and1 (pt_cmpR (op_notInK (K := K)) (pv 8) (pv 4) (by rfl))))))) (fun _ _ _ _ _ => (pv 8)))
      (pss_one (ps_ret (pe_op op_cat (pe_fn g_counted hr (pa_cons (pv 6) pa_nil)) (pe_fn g_counted hr (pa_cons (pv 7) pa_nil))))))))), ?_⟩
    refine sq_retLst (ans_not (ans_and2 (ans_val (val_meth (val_var rfl) R.ob (f_has_tray A) (va_1 (val_var rfl)) (has_tray_p R (t := t)))) (ans_and2 (ans_val (val_call (va_1 (val_var rfl)) (in_p (n := lo)))) (ans_val (val_call (va_1 (val_var rfl)) (in_p (n := hi)))))))
      (va_1 val_c) (by show 1 ≤ 1000; decide) (fun e => ?_) (fun e => ?_)
    · rw [if_pos (not_t e)] at k
      exact k
    have ok := not_f e
    rw [if_neg (by rw [ok]; decide), List.map_append, listRow_v, listRow_v] at k
    obtain ⟨o1, _, _⟩ := and3 ok
    obtain ⟨t0, t1⟩ := tr_lt o1
    obtain ⟨t, rfl⟩ := nat_of t0
    rw [Int.toNat_natCast] at k t1
    obtain ⟨ta, hta, hTa⟩ := R.trayOf (i := t) t1
    -- row = room.trays[t]
    refine v_tray R T (val_var rfl) (val_var rfl) hta _ ?_
    -- asked = [..]: the cards' dict is locked
    refine ⟨A.cd, _, R.dc, trivial, fun od => ?_⟩
    have nac : a ≠ A.cd := ne_of R.ob R.dc (by intro q; cases q)
    have obl : upd H A.cd (.frz od (.dK (cK r.cards A.cs))) a = some (.ins C A.dx A.flds) := by rw [upd_ne nac]; exact R.ob
    refine ⟨_, rfl, a, C, _, _, _, rfl, obl, T.cl, T.nCards, f_cards A, A.cd, od, rfl, .inl ⟨_, upd_same, fun Dl hD => ?_⟩⟩
    have hcl : upd H A.cd (.frz od (.dK (cK r.cards A.cs))) A.cd = some (.frz od (.dK (cK r.cards A.cs))) := upd_same
    have hct : ∀ (i : Nat) (u : Addr) (x : Vbenai.Card), A.cs[i]? = some u → r.cards[i]? = some x → upd H A.cd (.frz od (.dK (cK r.cards A.cs))) u = some (.tup [.int (x.home : Int), .int x.key]) := fun i u x h1 h2 => by
      rw [upd_ne (ne_of (R.ct i u x h1 h2) R.dc (by intro q; cases q))]
      exact R.ct i u x h1 h2
    have hbk : ∀ b o, H b = some o → b ≠ A.cd → upd H A.cd (.frz od (.dK (cK r.cards A.cs))) b = some o := fun b o h n => by rw [upd_ne n]; exact h
    have hfree : ∀ b, upd H A.cd (.frz od (.dK (cK r.cards A.cs))) b = none → H b = none := fun b h => by
      cases q : H b with
      | none => rfl
      | some o =>
        by_cases e : b = A.cd
        · rw [e, upd_same] at h; cases h
        · rw [hbk b o q e] at h; cases h
    have hDH := hfree Dl hD
    generalize upd H A.cd (.frz od (.dK (cK r.cards A.cs))) = Hl at obl hD hcl hct hbk hfree
    refine lc_it (walk_keys (d := A.cd) (o := od) (kvs := cK r.cards A.cs)) (fun i H' => Same Hl H' ∧ H' Dl = some (.lst (nv (((r.cards.take i).filter fun x => decide (lo ≤ x.key) && decide (x.key ≤ hi)).map (·.number))))) ⟨same_new hD, upd_same⟩ (fun i H' _ q => q.1 _ _ hcl) ?_ ?_
    · rintro i x H1 H2 hi2 ⟨s1, h1⟩ ⟨rfl, kk, vv, hk, rfl⟩
      obtain ⟨c, u, hc, hu, rfl, rfl⟩ := cK_get hk
      refine ⟨rfl, ?_⟩
      have hi3 : i < r.cards.length := (List.getElem?_eq_some_iff.mp hc).1
      refine ans_tt (val_btw (val_var rfl) (v_part (j := 1) (x := c) (v := .int c.key) (s1 _ _ obl) (f_key_of A) (.inr ⟨od, s1 _ _ hcl⟩) I.nd R.cl hc hu (s1 _ _ (hct i u c hu hc)) rfl (val_var rfl) (val_var rfl)) (val_var rfl)) _ ?_
      have ft := map_take_filter (p := fun x => decide (lo ≤ x.key) && decide (x.key ≤ hi)) hc
      cases e : isBetween c.key lo hi with
      | false =>
        refine iteF ⟨s1, ?_⟩
        rw [ft, if_neg (by intro z; have z2 : isBetween c.key lo hi = true := z; rw [e] at z2; cases z2), List.append_nil]
        exact h1
      | true =>
        refine iteT ⟨_, rfl, _, h1, ?_, fun b o z => ?_, ?_⟩
        · rw [nv_len, List.length_map]
          refine sz (Nat.le_trans (List.length_filter_le ..) ?_)
          rw [List.length_take]
          have := I.le
          omega
        · rw [upd_ne (ne_of_none z hD)]
          exact s1 b o z
        · rw [upd_same, ft, if_pos (show (decide (lo ≤ c.key) && decide (c.key ≤ hi)) = true from e), nv_app]
          rfl
    rintro H1 ⟨s1, h1⟩
    rw [cK_len R.cl, List.take_length] at h1
    refine ⟨s1 _ _ hcl, ?_⟩
    have nDc : Dl ≠ A.cd := (ne_of_none hcl hD).symm
    have s2 : Same H (upd H1 A.cd (.dK (cK r.cards A.cs))) := fun b o h => by
      by_cases e : b = A.cd
      · rw [e, upd_same, ← R.dc, ← e, h]
      · rw [upd_ne e]
        exact s1 _ _ (hbk b o h e)
    have h2 : (upd H1 A.cd (.dK (cK r.cards A.cs))) Dl = some (.lst (nv ((r.cards.filter fun x => decide (lo ≤ x.key) && decide (x.key ≤ hi)).map (·.number)))) := by rw [upd_ne nDc]; exact h1
    generalize upd H1 A.cd (.dK (cK r.cards A.cs)) = H2 at s2 h2
    have R2 := R.same s2
    have hll : ((r.cards.filter fun x => decide (lo ≤ x.key) && decide (x.key ≤ hi)).map (·.number)).length ≤ 1000 := by
      rw [List.length_map]
      exact Nat.le_trans (List.length_filter_le ..) (Nat.le_trans I.le (by decide))
    -- there
    refine sq_filter (K := K) (l := Vbenai.trayAt r t) (b := ta) (fun n => ((r.cards.filter fun x => decide (lo ≤ x.key) && decide (x.key ≤ hi)).map (·.number)).contains n) (val_var rfl) (s2 _ _ hTa) (Nat.le_trans (I.trl t1) (by decide)) (fun _ => rfl) (fun _ => rfl)
      (fun n hn H' s' => ?_) ?_
    · exact a_in (neg := false) (val_var rfl) (val_var rfl) (s' _ _ h2)
    intro p3 H3 hp3 s3 h3
    rw [asked_eq I t1] at h3
    -- away
    refine sq_filter (K := K) (l := (r.cards.filter fun x => decide (lo ≤ x.key) && decide (x.key ≤ hi)).map (·.number)) (b := Dl) (fun n => decide ((Vbenai.homeOf r n : Int) = (t : Int)) && !(Vbenai.trayAt r t).contains n) (val_var rfl) (s3 _ _ h2) hll (fun _ => rfl) (fun _ => rfl)
      (fun n hn H' s' => ?_) ?_
    · obtain ⟨c, hc, rfl⟩ := List.mem_map.mp hn
      have hc := (List.mem_filter.mp hc).1
      obtain ⟨i, hi3⟩ := List.getElem?_of_mem hc
      have R4 := (R2.same s3).same s'
      obtain ⟨u, hu⟩ : ∃ u, A.cs[i]? = some u := ⟨_, List.getElem?_eq_getElem (by rw [R.cl]; exact (List.getElem?_eq_some_iff.mp hi3).1)⟩
      rw [homeOf_mem I.nd hc]
      exact ans_and2 (a_eq (v_part (j := 0) (x := c) (v := .int (c.home : Int)) R4.ob (f_home_of A) (.inl R4.dc) I.nd R.cl hi3 hu (R4.ct i u c hu hi3) rfl (val_var rfl) (val_var rfl)) (val_var rfl)) (a_in (neg := true) (val_var rfl) (val_var rfl) (((s2.trans s3).trans s') _ _ hTa))
    intro p4 H4 hp4 s4 h4
    rw [away_eq I] at h4
    -- return counted(there) + counted(away)
    have l3 : (Vbenai.asked r t lo hi).length ≤ 40 := Nat.le_trans (List.length_filter_le ..) (I.trl t1)
    have l4 : (Vbenai.away r t lo hi).length ≤ 40 := by
      unfold Vbenai.away
      rw [List.length_map]
      exact Nat.le_trans (List.length_filter_le ..) I.le
    refine ⟨_, rfl, p3, _, rfl, s4 _ _ h3, by rw [nv_len]; omega, fun p5 H5 hp5 s5 h5 => ?_⟩
    refine ⟨_, rfl, p4, _, rfl, s5 _ _ h4, by rw [nv_len]; omega, fun p6 H6 hp6 s6 h6 => ?_⟩
    refine ⟨p5, p6, _, _, rfl, rfl, s6 _ _ h5, h6, ?_, fun q hq => ?_⟩
    · simp only [List.length_cons, nv_len]
      exact Nat.le_trans (show Vbenai.asked r t lo hi |>.length |> fun z => z + 1 + ((Vbenai.away r t lo hi).length + 1) ≤ 1000 by omega) (by decide)
    · have sall := ((((s2.trans s3).trans s4).trans s5).trans s6)
      exact k q _ (Same.free sall hq) (sall.trans (same_new hq)) upd_same
end
end Cc

set_option Elab.async false
set_option linter.all false
set_option maxRecDepth 100000
set_option maxHeartbeats 4000000
namespace Cc
open VbenCore (isBetween)
open Vbenai (State step)

/-! ### what is due of each call -/
theorem due_room (s : State) (t c : Int) : step s [[0, t, c]] = if (isBetween t 1 4 && isBetween c 1 3) = false then (s, [-1]) else (⟨Vbenai.fresh t.toNat c.toNat, Vbenai.fresh t.toNat c.toNat, []⟩, [0]) := rfl
theorem due_step {s : State} {row : List Int} {e : Vbenai.Event} {ok : Bool} (h : evOf s.room row = some (e, ok)) :
    step s [row] = ({ s with room := (stepDue s.room s.log ok e).1, log := (stepDue s.room s.log ok e).2.1 }, (stepDue s.room s.log ok e).2.2) := by
  have key : step s [row] = if ok = false then (s, [-1]) else Vbenai.act s (.event e ok) := by
    unfold evOf at h
    split at h
    all_goals first
      | (cases h; done)
      | (obtain ⟨rfl, rfl⟩ := Prod.mk.inj (Option.some.inj h); rfl)
  rw [key]
  unfold stepDue
  by_cases hk : ok = false
  · rw [if_pos hk, if_pos hk]
  · rw [if_neg hk, if_neg hk]
    simp only [Vbenai.act]
    cases Vbenai.stepped s.room e with
    | error n => rfl
    | ok r =>
      by_cases hj : 120 ≤ s.log.length
      · simp only
        rw [if_pos (show Vbenai.STEPS ≤ s.log.length from hj), if_pos hj]
        rfl
      · simp only
        rw [if_neg (show ¬ Vbenai.STEPS ≤ s.log.length from hj), if_neg hj]
theorem due_where (s : State) (n : Int) : step s [[8, n]] = (s, whereDue s.room n) := by
  show (if isBetween n 0 999 = false then (s, [-1]) else (s, _)) = _
  unfold whereDue
  by_cases h : isBetween n 0 999 = false
  · rw [if_pos h, if_pos h]
  · rw [if_neg h, if_neg h]
    rfl
theorem due_tray (s : State) (t : Int) : step s [[9, t]] = (s, if isTr s.room t = false then [-1] else Vbenai.listRow (Vbenai.trayAt s.room t.toNat)) := by
  show (if isTr s.room t = false then (s, [-1]) else (s, _)) = _
  by_cases h : isTr s.room t = false
  · rw [if_pos h, if_pos h]
  · rw [if_neg h, if_neg h]
theorem due_hand (s : State) (c : Int) : step s [[10, c]] = (s, if isCl s.room c = false then [-1] else Vbenai.listRow (Vbenai.handAt s.room c.toNat)) := by
  show (if isCl s.room c = false then (s, [-1]) else (s, _)) = _
  by_cases h : isCl s.room c = false
  · rw [if_pos h, if_pos h]
  · rw [if_neg h, if_neg h]
theorem due_ask (s : State) (t lo hi : Int) : step s [[11, t, lo, hi]] = (s, if (isTr s.room t && (isBetween lo (-1000) 1000 && isBetween hi (-1000) 1000)) = false then [-1] else Vbenai.listRow (Vbenai.asked s.room t.toNat lo hi) ++ Vbenai.listRow (Vbenai.away s.room t.toNat lo hi)) := by
  show (if (isTr s.room t && (isBetween lo (-1000) 1000 && isBetween hi (-1000) 1000)) = false then (s, [-1]) else (s, _)) = _
  by_cases h : (isTr s.room t && (isBetween lo (-1000) 1000 && isBetween hi (-1000) 1000)) = false
  · rw [if_pos h, if_pos h]
  · rw [if_neg h, if_neg h]
theorem due_right (s : State) : step s [[12]] = (s, match (List.range s.room.trays.length).find? fun t => !Vbenai.isRightTray s.room t with
    | none => [1]
    | some t => [0, (t : Int)]) := rfl
theorem due_least (s : State) : step s [[13]] = (s, [(Vbenai.least s.room : Int)]) := rfl
theorem due_plan (s : State) : step s [[14]] = (s, ((Vbenai.plan s.room).length : Int) :: (Vbenai.plan s.room).flatMap fun m => VbenCore.ints [m.t, m.p, m.u, m.q]) := rfl
theorem due_staying (s : State) (t : Int) : step s [[15, t]] = (s, if isTr s.room t = false then [-1] else Vbenai.listRow (Vbenai.staying s.room t.toNat)) := by
  show (if isTr s.room t = false then (s, [-1]) else (s, _)) = _
  by_cases h : isTr s.room t = false
  · rw [if_pos h, if_pos h]
  · rw [if_neg h, if_neg h]
theorem due_doubles (s : State) : step s [[16]] = (s, ((Vbenai.doubles s.room).length : Int) :: (Vbenai.doubles s.room).flatMap fun x => VbenCore.ints [x.1, x.2]) := rfl
def seenOk (s : State) (t : Int) (l : List Int) : Bool := isTr s.room t && (decide (l.length ≤ 40) && (l.eraseDups.length == l.length && l.all Vbenai.isNumber))
theorem due_inventory (s : State) (t : Int) (l : List Int) : step s [[17, t], l] = (s, if seenOk s t l = false then [-1] else
    Vbenai.listRow ((Vbenai.trayAt s.room t.toNat).filter fun n => !(l.map Int.toNat).contains n) ++ Vbenai.listRow ((l.map Int.toNat).filter fun n => !(Vbenai.trayAt s.room t.toNat).contains n)) := by
  show (if seenOk s t l = false then (s, [-1]) else (s, _)) = _
  by_cases h : seenOk s t l = false
  · rw [if_pos h, if_pos h]
  · rw [if_neg h, if_neg h]
theorem due_log (s : State) : step s [[18]] = (s, (s.log.length : Int) :: s.log.flatMap Vbenai.eventRow) := rfl
theorem due_undo0 {s : State} (h : s.log = []) : step s [[19]] = (s, [-5]) := by
  show Vbenai.act s .undo = _
  unfold Vbenai.act
  rw [h]
  rfl
theorem due_undo {s : State} {r : Vbenai.Room} (h : s.log ≠ []) (hp : Vbenai.played s.base s.log.dropLast = some r) : step s [[19]] = ({ s with room := r, log := s.log.dropLast }, [(s.log.length : Int) - 1]) := by
  show Vbenai.act s .undo = _
  unfold Vbenai.act
  cases e : s.log.getLast? with
  | none => exact absurd (List.getLast?_eq_none_iff.mp e) h
  | some x =>
    simp only
    rw [hp]
theorem due_exchange (s : State) (i : Int) : step s [[20, i]] = (s, if isBetween i 0 ((s.log.length : Int) - 2) = false then [-1] else [if Vbenai.mayExchange s i.toNat = true then 1 else 0]) := by
  show (if isBetween i 0 ((s.log.length : Int) - 2) = false then (s, [-1]) else (s, _)) = _
  by_cases h : isBetween i 0 ((s.log.length : Int) - 2) = false
  · rw [if_pos h, if_pos h]
  · rw [if_neg h, if_neg h]
theorem due_counts (s : State) : step s [[21]] = (s, VbenCore.ints [s.room.trays.length, s.room.hands.length, s.room.cards.length, (Vbenai.lying s.room).length, s.room.lent.length, s.room.lost.length, s.log.length]) := rfl
theorem due_missing (s : State) : step s [[22]] = (s, Vbenai.listRow ((s.room.cards.filter fun x => !(Vbenai.lying s.room).contains x.number).map fun x => x.number)) := rfl
theorem due_clear (s : State) : step s [[23]] = (Vbenai.start, [0]) := rfl

/-! ### every state that is met is as it can be -/
theorem stepDue_inv {s : State} {e : Vbenai.Event} {ok : Bool} (S : SInv s) (E : ok = true → EvOk s.room.trays.length s.room.hands.length e) : SInv { s with room := (stepDue s.room s.log ok e).1, log := (stepDue s.room s.log ok e).2.1 } := by
  unfold stepDue
  by_cases hk : ok = false
  · rw [if_pos hk]; exact S
  · rw [if_neg hk]
    have E := E (by cases ok <;> simp_all)
    cases q : Vbenai.stepped s.room e with
    | error n => exact S
    | ok r =>
      simp only
      by_cases hj : 120 ≤ s.log.length
      · rw [if_pos hj]; exact S
      · rw [if_neg hj]
        have z := event_inv S E
        simp only [Vbenai.act, q] at z
        rw [if_neg (show ¬ Vbenai.STEPS ≤ s.log.length from hj)] at z
        exact z
theorem room_inv {t c : Int} (h : (isBetween t 1 4 && isBetween c 1 3) = true) : SInv ⟨Vbenai.fresh t.toNat c.toNat, Vbenai.fresh t.toNat c.toNat, []⟩ := by
  obtain ⟨h1, h2⟩ := Bool.and_eq_true_iff.mp h
  have h1 := btw h1
  have h2 := btw h2
  refine ⟨fresh_inv ⟨by omega, by omega⟩ ⟨by omega, by omega⟩, by simp [Vbenai.fresh], rfl, by simp, by simp⟩
theorem undo_sinv {s : State} {r : Vbenai.Room} (S : SInv s) (h : s.log ≠ []) (hp : Vbenai.played s.base s.log.dropLast = some r) : SInv { s with room := r, log := s.log.dropLast } := by
  have z := undo_inv S
  have e := due_undo h hp
  have e2 : step s [[19]] = Vbenai.act s .undo := rfl
  rw [← e2, e] at z
  exact z
/-! ### lists without a number twice -/
theorem eraseDups_nd : ∀ {l : List Int}, l.Nodup → l.eraseDups = l
  | [], _ => rfl
  | x :: l, h => by
    obtain ⟨h1, h2⟩ := List.nodup_cons.mp h
    rw [List.eraseDups_cons]
    have e : (l.filter fun b => !b == x) = l := List.filter_eq_self.mpr fun y hy => by
      simp only [Bool.not_eq_true', beq_eq_false_iff_ne, ne_eq]
      intro q
      subst q
      exact h1 hy
    rw [e, eraseDups_nd h2]
theorem eraseDups_le : ∀ (n : Nat) (l : List Int), l.length ≤ n → l.eraseDups.length ≤ l.length
  | 0, l, h => by
    have : l = [] := List.length_eq_zero_iff.mp (by omega)
    subst this
    simp
  | n + 1, [], _ => by simp
  | n + 1, x :: l, h => by
    rw [List.eraseDups_cons]
    simp only [List.length_cons] at h ⊢
    have h1 := List.length_filter_le (fun b => !b == x) l
    have h2 := eraseDups_le n (l.filter fun b => !b == x) (by omega)
    omega
theorem eraseDups_inv : ∀ {l : List Int}, l.eraseDups.length = l.length → l.Nodup
  | [], _ => List.nodup_nil
  | x :: l, h => by
    rw [List.eraseDups_cons] at h
    simp only [List.length_cons] at h
    have h1 := List.length_filter_le (fun b => !b == x) l
    have h2 := eraseDups_le _ (l.filter fun b => !b == x) (Nat.le_refl _)
    have h3 : (l.filter fun b => !b == x).length = l.length := by omega
    have h4 : (l.filter fun b => !b == x) = l := List.Sublist.eq_of_length (List.filter_sublist ..) h3
    rw [h4] at h
    refine List.nodup_cons.mpr ⟨fun m => ?_, eraseDups_inv (by omega)⟩
    rw [← h4] at m
    have := (List.mem_filter.mp m).2
    simp at this
theorem eraseDups_dec (l : List Int) : (l.eraseDups.length == l.length) = decide l.Nodup := by
  by_cases h : l.Nodup
  · rw [eraseDups_nd h, decide_eq_true h]; simp
  · rw [decide_eq_false h]
    cases e : (l.eraseDups.length == l.length) with
    | false => rfl
    | true => exact absurd (eraseDups_inv (by simpa using e)) h
end Cc

set_option Elab.async false
set_option linter.all false
set_option maxRecDepth 100000
set_option maxHeartbeats 4000000
namespace Cc
open PySem PySem.Spec PyProof.Rows L2
open VbenCore (isBetween)

/-! ### every state that is met is as it can be -/
theorem decode_ev {s : Vbenai.State} {c : List (List Int)} {e : Vbenai.Event} {ok : Bool} (h : Vbenai.decode s c = some (.event e ok)) : ∃ row, c = [row] ∧ evOf s.room row = some (e, ok) := by
  unfold Vbenai.decode at h
  split at h
  all_goals first
    | (have h := Option.some.inj h; injection h with h1 h2; subst h1 h2; exact ⟨_, rfl, rfl⟩)
    | (have h := Option.some.inj h; injection h; done)
    | (cases h; done)
theorem step_sinv {s : Vbenai.State} (S : SInv s) (c : List (List Int)) : SInv (Vbenai.step s c).1 := by
  unfold Vbenai.step
  cases e : Vbenai.decode s c with
  | none => exact S
  | some d =>
    simp only
    split
    · exact S
    · rename_i h
      cases d with
      | room t c =>
        refine room_inv ?_
        cases q : (isBetween t 1 4 && isBetween c 1 3) with
        | true => rfl
        | false => exact absurd q h
      | event e ok =>
        obtain ⟨row, rfl, he⟩ := decode_ev e
        have ok' : ok = true := by
          cases ok with
          | true => rfl
          | false => exact absurd rfl h
        subst ok'
        exact event_inv S (ev_ok he).1
      | undo => exact undo_inv S
      | clear => exact start_inv
      | _ => exact S
/-! ### the room stands where something else is written -/
theorem RoomAt.off {C : Addr} {H : Hp} {a : Addr} {A : Ad} {r : Vbenai.Room} {log : List Vbenai.Event} (R : RoomAt C H a A r log) {g : Addr} {xs : List V} (hg : H g = some (.lst xs)) (n : g ∉ a :: A.own) (o : HO) : RoomAt C (upd H g o) a A r log := by
  have ne : ∀ {x : Addr}, x ∈ a :: A.own → x ≠ g := fun hx e => n (e ▸ hx)
  have at_ : ∀ {m : Nat} {x : Addr} {u : HO}, (a :: A.own)[m]? = some x → H x = some u → upd H g o x = some u := fun hx h => by rw [upd_ne (ne (List.mem_of_getElem? hx))]; exact h
  refine ⟨at_ (m := 0) rfl R.ob, at_ (m := 1) rfl R.dc, R.cl, R.off_ct hg (fun xs q => by cases q) _, at_ (m := 2) rfl R.dt, R.tt.off fun t ht => ?_, at_ (m := 3) rfl R.dh, R.hh.off fun t ht => ?_, at_ (m := 4) rfl R.dl, at_ (m := 5) rfl R.ds, at_ (m := 6) rfl R.dj, R.jj.off fun t ht => ?_, R.nd⟩
  · obtain ⟨i, hi⟩ := List.getElem?_of_mem ht
    exact ne (in_ts hi)
  · obtain ⟨i, hi⟩ := List.getElem?_of_mem ht
    exact ne (in_hs hi)
  · obtain ⟨i, hi⟩ := List.getElem?_of_mem ht
    exact ne (List.mem_of_getElem? (p_js hi))
/-! ### a call's promise -/
def flat : List (List Int) → List Int
  | [] => []
  | h :: rows => h ++ rows.flatMap fun r => (r.length : Int) :: r
def CallQ (C a : Addr) (A : Ad) (b : Addr) (s : Vbenai.State) (c : List (List Int)) (H : Hp) (Q : VK) : Prop :=
  ∀ (p : Addr) (H' : Hp) (A' : Ad), RoomAt C H' a A' (Vbenai.step s c).1.room (Vbenai.step s c).1.log → FrX H a A b H' A' → H p = none → p ∉ a :: A'.own → H' p = some (.lst ((Vbenai.step s c).2.map V.int)) → Q (.ref p) H'
/-- a call as it is cut: its number, so many numbers, its rows -/
def Told (c : List (List Int)) : Prop := ∃ (p : Int) (n k : Nat) (xs : List Int) (rows : List (List Int)), PyVbenai.shape p = some (n, k) ∧ xs.length = n ∧ rows.length = k ∧ c = (p :: xs) :: rows
def spCall (C : Addr) (low : List (List Int) → Prop) : Sp := fun vs H Q _ => ∃ (a b : Addr) (A : Ad) (s : Vbenai.State) (c : List (List Int)), vs = [.ref a, .ref b] ∧ RoomAt C H a A s.room s.log ∧ SInv s ∧ H b = some (.lst ((flat c).map V.int)) ∧ b ∉ a :: A.own ∧ Told c ∧ low c ∧ CallQ C a A b s c H Q
theorem cut_nat (l : List Int) {i j : Nat} (h1 : i ≤ j) (h2 : j ≤ l.length) : cutV (l.map V.int) (some (i : Int)) (some (j : Int)) = ((l.drop i).take (j - i)).map V.int := by
  have e : ∀ k : Nat, k ≤ l.length → ∀ d, HT.sIx (l.map V.int).length d (some (k : Int)) = k := fun k hk d => by
    rw [List.length_map]
    simp only [HT.sIx]
    first | omega | (simp; omega) | (split <;> omega)
  unfold cutV
  rw [e i (by omega), e j h2, List.map_take, List.map_drop]
end Cc

set_option Elab.async false
set_option linter.all false
set_option maxRecDepth 100000
set_option maxHeartbeats 4000000
namespace Cc
open PySem PySem.Spec PyProof.Rows L2
open VbenCore (isBetween)

/-! ### a reading's first part, told by itself -/
section
variable {σ : L2.St} {H : Hp} {D : Ends} {te ta tb : TE} {tz ts : TS} {tt : TT} {Q : VK} {sp : Sp} {E : XK} {i : Nat}
theorem e_asg (h : te σ H fun x H1 => tz D (σ.set i (some x)) H1) : tSeq (tAsg te (gName i)) tz D σ H := h
theorem e_ret (h : te σ H D.rt) : tRet te D σ H := h
theorem e_drop (h : te σ H fun _ H1 => tz D σ H1) : tSeq (tDrop te) tz D σ H := h
theorem e_drop1 (h : te σ H fun _ H1 => D.nx σ H1) : tDrop te D σ H := h
theorem e_cb1 {r : List V → Hp → VK → Prop} (h : te σ H fun v H1 => r [v] H1 Q) : tCB r (tCons te tNil) σ H Q := h
theorem e_call1 (h : te σ H fun v H1 => sp [v] H1 Q E) : tCall sp [] E (tCons te tNil) σ H Q := h
theorem e_op {r : R2} (h : ta σ H fun x H1 => tb σ H1 fun y H2 => r x y H2 Q) : tOp r ta tb σ H Q := h
end
/-! ### a list made item by item -/
section
variable {σ : L2.St} {H : Hp} {K : PySem.W.Frag} {tl te : TE}
/-- [f(x) for x in row], the heap as it was -/
theorem lc_mapV {xs ys : List V} {b : Addr} {j : Nat} {ws : List Nat} (hsrc : Val tl σ H (.ref b)) (hb : H b = some (.lst xs)) (hy : ys.length = xs.length) (hl : xs.length ≤ 1000)
    (hw : ∀ v, wipe ((wipe σ ws).set j (some v)) ws = wipe σ ws)
    (elt : ∀ (i : Nat) (x y : V), xs[i]? = some x → ys[i]? = some y → ∀ H', Same H H' → Val te ((wipe σ ws).set j (some x)) H' y) (Q : VK) (k : NewL H ys Q) : tLc (iList K tl) (gName j) tYes te ws σ H Q := by
  refine hsrc _ ⟨b, rfl, ⟨_, SqL.of hb⟩, fun Dl hD => ?_⟩
  refine lc_list (K := K) (a := b) (xs := xs) (fun i H' => Same H H' ∧ H' Dl = some (.lst (ys.take i))) ⟨same_new hD, upd_same⟩ (fun i H' _ q => SqL.of (q.1 _ _ hb)) ?_ ?_
  · rintro i x H' hi ⟨s1, h1⟩
    have hlt : i < xs.length := (List.getElem?_eq_some_iff.mp hi).1
    obtain ⟨y, hyi⟩ : ∃ y, ys[i]? = some y := ⟨_, List.getElem?_eq_getElem (by omega)⟩
    refine ⟨hw _, ?_⟩
    refine iteT (B := Same H H' ∧ H' Dl = some (.lst (ys.take (i + 1)))) ?_
    refine elt i x y hi hyi H' s1 _ ⟨_, h1, ?_, fun b o z => ?_, ?_⟩
    · refine sz ?_
      rw [List.length_take]
      omega
    · rw [upd_ne (ne_of_none z hD)]
      exact s1 b o z
    · rw [upd_same, List.take_add_one, hyi]
      rfl
  · rintro H' ⟨s1, h1⟩
    rw [← hy, List.take_length] at h1
    exact k Dl H' hD s1 h1
/-- the same with a number for each number -/
theorem lc_mapN {l : List Nat} {f : Nat → V} {b : Addr} {j : Nat} {ws : List Nat} (hsrc : Val tl σ H (.ref b)) (hb : H b = some (.lst (nv l))) (hl : l.length ≤ 1000)
    (hw : ∀ v, wipe ((wipe σ ws).set j (some v)) ws = wipe σ ws)
    (elt : ∀ n ∈ l, ∀ H', Same H H' → Val te ((wipe σ ws).set j (some (.int ((n : Nat) : Int)))) H' (f n)) (Q : VK) (k : NewL H (l.map f) Q) : tLc (iList K tl) (gName j) tYes te ws σ H Q :=
  lc_mapV (ys := l.map f) hsrc hb (by rw [List.length_map, nv_len]) (by rw [nv_len]; exact hl) hw (fun i x y h1 h2 H' s => by
    obtain ⟨n, hn, rfl⟩ := nv_get_inv h1
    rw [List.getElem?_map, hn] at h2
    cases h2
    exact elt n (List.mem_of_getElem? hn) H' s) Q k
end
/-! ### a card's home and key -/
section
variable {C : Addr} {H : Hp} {a : Addr} {A : Ad} {r : Vbenai.Room} {log : List Vbenai.Event} {σ : L2.St} {tr tx : TE}
theorem v_key (R : RoomAt C H a A r log) (I : RInv r) {n : Nat} (hn : n ∈ r.cards.map (·.number)) (h1 : Val tr σ H (.ref a)) (h2 : Val tx σ H (.int (n : Int))) : Val (tMeth C "key_of" (spPart C 1) [] E0 tr (tCons tx tNil)) σ H (.int (Vbenai.keyOf r n)) := by
  obtain ⟨c, hc, rfl⟩ := List.mem_map.mp hn
  obtain ⟨i, hi⟩ := List.getElem?_of_mem hc
  obtain ⟨u, hu⟩ : ∃ u, A.cs[i]? = some u := ⟨_, List.getElem?_eq_getElem (by rw [R.cl]; exact (List.getElem?_eq_some_iff.mp hi).1)⟩
  rw [keyOf_mem I.nd hc]
  exact v_part (j := 1) (x := c) (v := .int c.key) R.ob (f_key_of A) (.inl R.dc) I.nd R.cl hi hu (R.ct i u c hu hi) rfl h1 h2
theorem v_home (R : RoomAt C H a A r log) (I : RInv r) {n : Nat} (hn : n ∈ r.cards.map (·.number)) (h1 : Val tr σ H (.ref a)) (h2 : Val tx σ H (.int (n : Int))) : Val (tMeth C "home_of" (spPart C 0) [] E0 tr (tCons tx tNil)) σ H (.int (Vbenai.homeOf r n : Int)) := by
  obtain ⟨c, hc, rfl⟩ := List.mem_map.mp hn
  obtain ⟨i, hi⟩ := List.getElem?_of_mem hc
  obtain ⟨u, hu⟩ : ∃ u, A.cs[i]? = some u := ⟨_, List.getElem?_eq_getElem (by rw [R.cl]; exact (List.getElem?_eq_some_iff.mp hi).1)⟩
  rw [homeOf_mem I.nd hc]
  exact v_part (j := 0) (x := c) (v := .int (c.home : Int)) R.ob (f_home_of A) (.inl R.dc) I.nd R.cl hi hu (R.ct i u c hu hi) rfl h1 h2
theorem lies_card (I : RInv r) {n : Nat} (h : n ∈ Vbenai.lying r) : n ∈ r.cards.map (·.number) := mem_of_count (by
  have c := I.cnt n
  have c2 := count_of_mem h
  unfold Vbenai.lying at c2
  omega)
theorem tray_lies {t n : Nat} (ht : t < r.trays.length) (h : n ∈ Vbenai.trayAt r t) : n ∈ Vbenai.lying r := List.mem_flatten.mpr ⟨_, getD_mem ht, h⟩
theorem home_lt (I : RInv r) {n : Nat} (hn : n ∈ r.cards.map (·.number)) : Vbenai.homeOf r n < r.trays.length := by
  obtain ⟨c, hc, rfl⟩ := List.mem_map.mp hn
  rw [homeOf_mem I.nd hc]
  exact (I.ok c hc).2.1
end
/-! ### counted_rows -/
/-- rows that are lists or tuples -/
def RowsA (H : Hp) (as : List Addr) (L : List (List V)) : Prop := as.length = L.length ∧ ∀ (i : Nat) (t : Addr) (l : List V), as[i]? = some t → L[i]? = some l → H t = some (.lst l) ∨ H t = some (.tup l)
theorem Rows.a {H : Hp} {as : List Addr} {L : List (List V)} (R : Rows H as L) : RowsA H as L := ⟨R.1, fun i t l h1 h2 => .inl (R.2 i t l h1 h2)⟩
def spRows : Sp := fun vs H Q _ => ∃ (d : Addr) (as : List Addr) (L : List (List V)), vs = [.ref d] ∧ H d = some (.lst (as.map V.ref)) ∧ RowsA H as L ∧ L.flatten.length ≤ 5000 ∧ NewL H (.int (L.length : Int) :: L.flatten) Q
theorem flat_take {L : List (List V)} {i : Nat} {l : List V} (h : L[i]? = some l) : (L.take (i + 1)).flatten = (L.take i).flatten ++ l := by
  rw [List.take_add_one, h, List.flatten_append]
  simp
theorem flat_take_le (L : List (List V)) (i : Nat) : (L.take i).flatten.length ≤ L.flatten.length := by
  conv => rhs; rw [← List.take_append_drop i L, List.flatten_append, List.length_append]
  omega
section
variable {P : Program} {w : World} {K : PySem.W.Frag} {mg : Str → Option Value} {base : Heap} {C : Addr}
theorem sc_counted_rows : FnScope ["rows", "numbers", "row"] ["rows"] (defScope (top 2)) := ⟨rfl, rfl, rfl, by decide +kernel, rfl, by decide +kernel, by decide +kernel⟩
theorem g_counted_rows (D : DefAt K mg "counted_rows" (top 2)) (T : Txt K mg C) : FnG P w K mg base "counted_rows" 1 ["rows"] spRows := by
  refine D.fn sc_counted_rows (fun _ _ _ _ _ _ us hl => match us, hl with | [_], _ => rfl) (fun vs H Q E h => ?_) (fun f cdv Ar outer s H vs Q E hr h => ?_)
  · obtain ⟨_, _, _, rfl, _⟩ := h
    rfl
  · obtain ⟨d, as, L, rfl, hd, R, hl, k⟩ := h
    refine ⟨_, pss_cons (ps_set (i := 1) sc_counted_rows.nd rfl (Or.inl rfl) (pe_lst (pa_cons (pe_callB call_len_seq (by rfl) T.len PySem.boot_len (pa_cons (pv 0) pa_nil)) pa_nil)))
      (pss_cons (ps_for PassesOwn.never rfl (pi_list (pv 0)) (pg_name (i := 2) sc_counted_rows.nd rfl (Or.inl rfl)) (pss_one (ps_expr (pe_bm PySem.F.plainAttrs_list PySem.F.slot_list_extend PySem.F.type_list_extend mt_extA (pv 1) (pa_cons (pv 2) pa_nil)))))
      (pss_one (ps_ret (pv 1)))), ?_⟩
    refine ⟨_, rfl, d, _, rfl, .inl (SqL.of hd), (by show 1 ≤ sizeLine; decide), fun p hp => ?_⟩
    rw [len_refs, R.1]
    refine ⟨_, rfl, d, rfl, ⟨_, SqL.of (same_new hp _ _ hd)⟩, ?_⟩
    refine for_list (K := K) (a := d) (xs := as.map V.ref) (fun i σ H' => ∃ v2 : Option V, σ = [some (.ref d), some (.ref p), v2] ∧ Same H H' ∧ H' p = some (.lst (.int (L.length : Int) :: (L.take i).flatten)))
      ⟨none, rfl, same_new hp, upd_same⟩ (fun i σ H' _ ⟨_, _, s1, _⟩ => SqL.of (s1 _ _ hd)) ?_ ?_
    · rintro i x σ H1 hi ⟨v2, rfl, s1, h1⟩
      obtain ⟨t, ht, rfl⟩ := refs_inv hi
      have hlt : i < L.length := by rw [← R.1]; exact (List.getElem?_eq_some_iff.mp ht).1
      obtain ⟨l, hli⟩ : ∃ l, L[i]? = some l := ⟨_, List.getElem?_eq_getElem hlt⟩
      have hrow : H1 t = some (.lst l) ∨ H1 t = some (.tup l) := (R.2 i t l ht hli).imp (s1 _ _) (s1 _ _)
      have ft := flat_take hli
      have fl := flat_take_le L (i + 1)
      rw [ft, List.length_append] at fl
      refine ⟨_, rfl, .inl ⟨rfl, _, SqL.of h1⟩, _, rfl, p, t, _, l, rfl, rfl, h1, hrow, ?_, some (.ref t), rfl, fun b o z => ?_, ?_⟩
      · rw [List.length_cons]
        exact Nat.le_trans (show (L.take i).flatten.length + 1 + l.length ≤ 5001 by omega) (by decide)
      · rw [upd_ne (ne_of_none z hp)]
        exact s1 b o z
      · rw [upd_same, ft]
        rfl
    · rintro σ H1 ⟨v2, rfl, s1, h1⟩
      rw [len_refs, R.1, List.take_length] at h1
      exact ⟨_, rfl, k p H1 hp s1 h1⟩
/-! ### tell_log -/
theorem row_len (e : Vbenai.Event) : (Vbenai.eventRow e).length ≤ 5 := by
  cases e <;> simp [Vbenai.eventRow, VbenCore.ints]
theorem log_flat (log : List Vbenai.Event) : (log.map fun e => (Vbenai.eventRow e).map V.int).flatten = (log.flatMap Vbenai.eventRow).map V.int := by
  induction log with
  | nil => rfl
  | cons e l ih => rw [List.map_cons, List.flatten_cons, ih, List.flatMap_cons, List.map_append]
theorem log_flat_len (log : List Vbenai.Event) : (log.flatMap Vbenai.eventRow).length ≤ 5 * log.length := by
  induction log with
  | nil => exact Nat.zero_le _
  | cons e l ih =>
    rw [List.flatMap_cons, List.length_append, List.length_cons]
    have := row_len e
    omega
def spLog (C : Addr) : Sp := fun vs H Q _ => ∃ (a : Addr) (A : Ad) (r : Vbenai.Room) (log : List Vbenai.Event), vs = [.ref a] ∧ RoomAt C H a A r log ∧ log.length ≤ 120 ∧ NewL H (((log.length : Int) :: log.flatMap Vbenai.eventRow).map V.int) Q
theorem sc_tell_log : FnScope ["room"] ["room"] (defScope (top 36)) := ⟨rfl, rfl, rfl, by decide +kernel, rfl, by decide +kernel, by decide +kernel⟩
theorem g_tell_log (D : DefAt K mg "tell_log" (top 36)) (T : Txt K mg C) (g_counted_rows : FnG P w K mg base "counted_rows" 1 ["rows"] spRows) : FnG P w K mg base "tell_log" 2 ["room"] (spLog C) := by
  refine D.fn sc_tell_log (fun _ _ _ _ _ _ us hl => match us, hl with | [_], _ => rfl) (fun vs H Q E h => ?_) (fun f cdv Ar outer s H vs Q E hr h => ?_)
  · obtain ⟨_, _, _, _, rfl, _⟩ := h
    rfl
  · obtain ⟨a, A, r, log, rfl, R, hl, k⟩ := h
    refine ⟨_, pss_one (ps_ret (pe_fn g_counted_rows hr (pa_cons (pe_fld (pv 0) rfl) pa_nil))), ?_⟩
    refine st_retc (va_1 (val_fld (val_var rfl) R.ob T.cl T.nJournal (f_journal A))) ⟨A.jd, A.js, _, rfl, R.dj, R.jj.a, ?_, ?_⟩
    · rw [log_flat, List.length_map]
      have := log_flat_len log
      omega
    · rw [log_flat, List.length_map]
      exact k
/-! ### tell_counts -/
theorem sum_lens : ∀ L : List (List Nat), (L.map fun l => ((l.length : Nat) : Int)).sum = ((L.flatten.length : Nat) : Int)
  | [] => rfl
  | l :: L => by
    rw [List.map_cons, List.sum_cons, sum_lens L, List.flatten_cons, List.length_append]
    omega
def spCounts (C : Addr) : Sp := fun vs H Q _ => ∃ (a : Addr) (A : Ad) (r : Vbenai.Room) (log : List Vbenai.Event), vs = [.ref a] ∧ RoomAt C H a A r log ∧ RInv r ∧
  NewL H ((VbenCore.ints [r.trays.length, r.hands.length, r.cards.length, (Vbenai.lying r).length, r.lent.length, r.lost.length, log.length]).map V.int) Q
theorem sc_tell_counts : FnScope ["room", "lying", "row"] ["room"] (defScope (top 69)) := ⟨rfl, rfl, rfl, by decide +kernel, rfl, by decide +kernel, by decide +kernel⟩
theorem g_tell_counts (D : DefAt K mg "tell_counts" (top 69)) (T : Txt K mg C) : FnG P w K mg base "tell_counts" 1 ["room"] (spCounts C) := by
  refine D.fn sc_tell_counts (fun _ _ _ _ _ _ us hl => match us, hl with | [_], _ => rfl) (fun vs H Q E h => ?_) (fun f cdv Ar outer s H vs Q E hr h => ?_)
  · obtain ⟨_, _, _, _, rfl, _⟩ := h
    rfl
  · obtain ⟨a, A, r, log, rfl, R, I, k⟩ := h
    refine ⟨_, pss_cons (ps_set (i := 1) sc_tell_counts.nd rfl (Or.inl rfl) (pe_callB (cr_sum rfl) (by rfl) T.sum (by decide +kernel) (pa_cons (pe_lc (own := [("row", 2)]) (g := gName 2) (tt := tYes) (by rfl) sc_tell_counts.nd (pi_list (pe_fld (pv 0) rfl)) (blkOk_by (own := [("row", 2)]) (N := ["room", "lying", "row"]) (sc := defScope (top 69)) (by decide +kernel)) (fun _ _ _ _ _ => (pg_name (i := 2) sc_tell_counts.nd rfl (Or.inl rfl))) (fun _ _ _ _ _ => pts_nil) (fun _ _ _ _ _ => (pe_callB (call_lenK (K := K)) (by rfl) T.len PySem.boot_len (pa_cons (pv 2) pa_nil)))) pa_nil)))
      (pss_one (ps_ret (pe_lst (pa_cons (pe_callB call_len_seq (by rfl) T.len PySem.boot_len (pa_cons (pe_fld (pv 0) rfl) pa_nil)) (pa_cons (pe_callB call_len_seq (by rfl) T.len PySem.boot_len (pa_cons (pe_fld (pv 0) rfl) pa_nil)) (pa_cons (pe_callB call_lenD (by rfl) T.len PySem.boot_len (pa_cons (pe_fld (pv 0) rfl) pa_nil)) (pa_cons (pv 1) (pa_cons (pe_callB call_lenD (by rfl) T.len PySem.boot_len (pa_cons (pe_fld (pv 0) rfl) pa_nil)) (pa_cons (pe_callB call_len_seq (by rfl) T.len PySem.boot_len (pa_cons (pe_fld (pv 0) rfl) pa_nil)) (pa_cons (pe_callB call_len_seq (by rfl) T.len PySem.boot_len (pa_cons (pe_fld (pv 0) rfl) pa_nil)) pa_nil)))))))))), ?_⟩
    have tl : A.ts.length = r.trays.length := by have := R.tt.1; rw [List.length_map] at this; exact this
    have hl : A.hs.length = r.hands.length := by have := R.hh.1; rw [List.length_map] at this; exact this
    have jl : A.js.length = log.length := by have := R.jj.1; rw [List.length_map] at this; exact this
    refine e_asg (e_cb1 ?_)
    refine lc_mapV (K := K) (xs := A.ts.map V.ref) (ys := (r.trays.map fun l => ((l.length : Nat) : Int)).map V.int) (val_fld (val_var rfl) R.ob T.cl T.nTrays (f_trays A)) R.dt (by simp [tl]) (by rw [len_refs, tl]; have := I.tr; omega) (fun v => rfl) ?_ _ ?_
    · intro i x y h1 h2 H' s1
      obtain ⟨t, ht, rfl⟩ := refs_inv h1
      rw [List.map_map, List.getElem?_map] at h2
      cases e : r.trays[i]? with
      | none => rw [e] at h2; cases h2
      | some l =>
        rw [e] at h2
        cases h2
        have hrow := s1 _ _ (R.tt.2 i t (nv l) ht (by rw [List.getElem?_map, e]; rfl))
        refine Val.to (v_len (val_var rfl) hrow) ?_
        rw [nv_len]
        rfl
    · intro p H1 hp s1 h1
      refine ⟨p, _, rfl, SqL.of h1, ?_⟩
      rw [sum_lens]
      have R1 := R.same s1
      refine st_retLst (va_cons (v_len (val_fld (val_var rfl) R1.ob T.cl T.nTrays (f_trays A)) R1.dt) (va_cons (v_len (val_fld (val_var rfl) R1.ob T.cl T.nHands (f_hands A)) R1.dh) (va_cons (val_cb (va_1 (val_fld (val_var rfl) R1.ob T.cl T.nCards (f_cards A))) fun Q q => ⟨A.cd, _, rfl, R1.dc, q⟩) (va_cons (val_var rfl)
        (va_cons (val_cb (va_1 (val_fld (val_var rfl) R1.ob T.cl T.nLent (f_lent A))) fun Q q => ⟨A.ld, _, rfl, R1.dl, q⟩) (va_cons (v_len (val_fld (val_var rfl) R1.ob T.cl T.nLost (f_lost A)) R1.ds) (va_1 (v_len (val_fld (val_var rfl) R1.ob T.cl T.nJournal (f_journal A)) R1.dj)))))))) (by show 7 ≤ 1000; decide) ?_
      rw [len_refs, len_refs, len_refs, tl, hl, jl, nv_len, cK_len R.cl]
      have el : (lK r.lent).length = r.lent.length := by unfold lK; rw [List.length_map]
      rw [el]
      exact NewL.back k s1
end
end Cc

set_option Elab.async false
set_option linter.all false
set_option maxRecDepth 100000
set_option maxHeartbeats 4000000
namespace Cc
open PySem PySem.Spec PyProof.Rows L2
open VbenCore (isBetween)

theorem r_eqI {i j : Int} {H : Hp} {Q : VK} (q : Q (.bl (decide (i = j))) H) : rEq (.int i) (.int j) H Q := by
  refine ⟨rfl, ?_⟩
  have e : decide (V.int i = V.int j) = decide (i = j) := by
    by_cases h : i = j
    · rw [decide_eq_true h, h]; simp
    · rw [decide_eq_false h, decide_eq_false (fun q => h (by injection q))]
  rw [e]
  exact q
theorem e_tc {v : V} {σ : L2.St} {H : Hp} {Q : VK} (h : Q v H) : tC v σ H Q := h
/-! ### tests that make new things -/
def AnsS (t : TT) (σ : L2.St) (H : Hp) (b : Bool) : Prop := ∀ Q : Bool → Hp → Prop, (∀ H', Same H H' → Q b H') → t σ H Q
section
variable {σ : L2.St} {H : Hp} {t u : TT} {b c : Bool} {D : Ends} {ta : TA} {vs : List V} {tz : TS} {te : TE}
theorem Ans.s (h : Ans t σ H b) : AnsS t σ H b := fun Q q => h Q (q H (Same.refl H))
theorem AnsS.to (h : AnsS t σ H b) (e : b = c) : AnsS t σ H c := e ▸ h
theorem ansS_and (h1 : Ans t σ H b) (h2 : b = true → AnsS u σ H c) : AnsS (tAnd t u) σ H (b && c) := fun Q q => h1 _ (by
  cases b with
  | true => exact iteT (h2 rfl Q q)
  | false => exact iteF (q H (Same.refl H)))
theorem ansS_or (h1 : Ans t σ H b) (h2 : b = false → AnsS u σ H c) : AnsS (tOr t u) σ H (b || c) := fun Q q => h1 _ (by
  cases b with
  | true => exact iteT (q H (Same.refl H))
  | false => exact iteF (h2 rfl Q q))
theorem ansS_not (h : AnsS t σ H b) : AnsS (tNot t) σ H (!b) := fun Q q => h _ q
theorem sqS_retLst (hc : AnsS t σ H b) (h : ∀ H', Same H H' → ValA ta σ H' vs) (hl : vs.length ≤ 1000) (q1 : b = true → NewL H vs D.rt) (q2 : b = false → ∀ H', Same H H' → tz D σ H') : tSeq (tIfS t (tRet (tLst ta)) tNext) tz D σ H :=
  hc _ fun H' s => by
    cases b with
    | true => exact iteT (st_retLst (D := { D with nx := tz D }) (h H' s) hl (NewL.back (q1 rfl) s))
    | false => exact iteF (q2 rfl H' s)
theorem sqS_ret (hc : AnsS t σ H b) {v : V} (h : ∀ H', Same H H' → Val te σ H' v) (q1 : b = true → ∀ H', Same H H' → D.rt v H') (q2 : b = false → ∀ H', Same H H' → tz D σ H') : tSeq (tIfS t (tRet te) tNext) tz D σ H :=
  hc _ fun H' s => by
    cases b with
    | true => exact iteT (st_ret (D := { D with nx := tz D }) (h H' s) (q1 rfl H' s))
    | false => exact iteF (q2 rfl H' s)
end
/-! ### is_seen_list, take_inventory -/
def seenB (l : List Int) : Bool := decide (l.length ≤ 40) && (l.eraseDups.length == l.length && l.all Vbenai.isNumber)
def spSeen : Sp := fun vs H Q _ => ∃ (b : Addr) (l : List Int), vs = [.ref b] ∧ H b = some (.lst (l.map V.int)) ∧ ∀ H', Same H H' → Q (.bl (seenB l)) H'
theorem seen_eq (l : List Int) : seenB l = if (decide (40 < l.length) || decide ((dedup l).length < l.length)) = true then false else l.all Vbenai.isNumber := by
  unfold seenB
  rw [eraseDups_dec, dedup_lt]
  by_cases h1 : l.length ≤ 40
  · rw [decide_eq_true h1, decide_eq_false (show ¬ 40 < l.length by omega), Bool.true_and, Bool.false_or]
    cases decide l.Nodup with
    | true => rfl
    | false => rfl
  · rw [decide_eq_false h1, decide_eq_true (show 40 < l.length by omega)]
    rfl
section
variable {P : Program} {w : World} {K : PySem.W.Frag} {mg : Str → Option Value} {base : Heap} {C : Addr}
theorem sc_is_seen_list : FnScope ["seen", "n"] ["seen"] (defScope (top 67)) := ⟨rfl, rfl, rfl, by decide +kernel, rfl, by decide +kernel, by decide +kernel⟩
theorem g_is_seen_list (D : DefAt K mg "is_seen_list" (top 67)) (T : Txt K mg C) (g_is_card_number : FnG P w K mg base "is_card_number" 1 ["n"] (spIn 0 999)) : FnG P w K mg base "is_seen_list" 2 ["seen"] spSeen := by
  refine D.fn sc_is_seen_list (fun _ _ _ _ _ _ us hl => match us, hl with | [_], _ => rfl) (fun vs H Q E h => ?_) (fun f cdv Ar outer s H vs Q E hr h => ?_)
  · obtain ⟨_, _, rfl, _⟩ := h
    rfl
  · obtain ⟨b, l, rfl, hb, k⟩ := h
    refine ⟨_, pss_cons (ps_if (PW.pt (pw_or (pt_cmpR op_gt (pe_callB call_len_seq (by rfl) T.len PySem.boot_len (pa_cons (pv 0) pa_nil)) (pe_num (T.at_ 15 rfl)) (nomark _)) (pw_or1 (pt_cmpR op_lt (pe_callB cr_lenS (by rfl) T.len PySem.boot_len (pa_cons (pe_callTy (cr_setI rfl) (by rfl) T.set (by decide +kernel) (pa_cons (pv 0) pa_nil)) pa_nil)) (pe_callB call_len_seq (by rfl) T.len PySem.boot_len (pa_cons (pv 0) pa_nil)) (nomark _))))) (pss_one (ps_ret pe_bl)) pss_nil)
      (pss_one (ps_ret (pe_callB (cr_all rfl) (by rfl) T.all (by decide +kernel) (pa_cons (pe_lc (own := [("n", 1)]) (g := gName 1) (tt := tYes) (by rfl) sc_is_seen_list.nd (pi_list (pv 0)) (blkOk_by (own := [("n", 1)]) (N := ["seen", "n"]) (sc := defScope (top 67)) (by decide +kernel)) (fun _ _ _ _ _ => (pg_name (i := 1) sc_is_seen_list.nd rfl (Or.inl rfl))) (fun _ _ _ _ _ => pts_nil) (fun _ _ _ _ _ => (pe_fn g_is_card_number hr (pa_cons (pv 1) pa_nil)))) pa_nil)))), ?_⟩
    rw [seen_eq] at k
    have c1 : decide ((40 : Int) < ((l.map V.int).length : Int)) = decide (40 < l.length) := by
      rw [List.length_map]
      by_cases h : 40 < l.length
      · rw [decide_eq_true h, decide_eq_true (by omega)]
      · rw [decide_eq_false h, decide_eq_false (by omega)]
    refine sqS_ret (b := decide (40 < l.length) || decide ((dedup l).length < l.length)) (ansS_or ((a_gt (v_len (val_var rfl) hb) val_c).to c1) fun hl => ?_) (fun H' s1 => val_c) (fun e H' s1 => ?_) (fun e H' s1 => ?_)
    · have hl : ¬ 40 < l.length := by simpa using hl
      intro Q2 q2
      have le : (dedup l).length ≤ l.length := PyProof.Rows.firstMet_length_le _ _
      refine ⟨_, rfl, b, l, rfl, SqL.of hb, by omega, fun p hp => ⟨p, _, _, rfl, upd_same, by omega, _, rfl, b, _, rfl, .inl (SqL.of (same_new hp _ _ hb)), _, _, rfl, rfl, _, rfl, ?_⟩⟩
      have e2 : decide (((dedup l).length : Int) < ((l.map V.int).length : Int)) = decide ((dedup l).length < l.length) := by
        rw [List.length_map]
        by_cases h : (dedup l).length < l.length
        · rw [decide_eq_true h, decide_eq_true (by omega)]
        · rw [decide_eq_false h, decide_eq_false (by omega)]
      rw [e2]
      exact q2 _ (same_new hp)
    · rw [if_pos e] at k
      exact k H' s1
    · rw [if_neg (by rw [e]; decide)] at k
      have hl : ¬ 40 < l.length := by simpa using (Bool.or_eq_false_iff.mp e).1
      refine e_ret (e_cb1 ?_)
      refine lc_mapV (K := K) (xs := l.map V.int) (ys := (l.map fun n => isBetween n 0 999).map V.bl) (val_var rfl) (s1 _ _ hb) (by simp) (by rw [List.length_map]; omega) (fun v => rfl) ?_ _ ?_
      · intro i x y h1 h2 H2 s2
        rw [List.getElem?_map] at h1
        rw [List.map_map, List.getElem?_map] at h2
        cases e3 : l[i]? with
        | none => rw [e3] at h1; cases h1
        | some n =>
          rw [e3] at h1 h2
          cases h1
          cases h2
          exact val_call (va_1 (val_var rfl)) (in_p (n := n))
      · intro p H2 hp s2 h2
        refine ⟨p, _, rfl, SqL.of h2, ?_⟩
        have e4 : (l.map fun n => isBetween n 0 999).all id = l.all Vbenai.isNumber := by
          rw [List.all_map]
          rfl
        rw [e4]
        exact k H2 (s1.trans s2)
def spInv (C : Addr) : Sp := fun vs H Q _ => ∃ (a b : Addr) (A : Ad) (r : Vbenai.Room) (log : List Vbenai.Event) (t : Int) (l : List Int), vs = [.ref a, .int t, .ref b] ∧ RoomAt C H a A r log ∧ RInv r ∧ H b = some (.lst (l.map V.int)) ∧
  NewL H ((if (isTr r t && seenB l) = false then [-1] else Vbenai.listRow ((Vbenai.trayAt r t.toNat).filter fun n => !(l.map Int.toNat).contains n) ++ Vbenai.listRow ((l.map Int.toNat).filter fun n => !(Vbenai.trayAt r t.toNat).contains n)).map V.int) Q
theorem nats_of {l : List Int} (h : l.all Vbenai.isNumber = true) : l.map V.int = nv (l.map Int.toNat) := by
  unfold nv
  rw [List.map_map]
  refine List.map_congr_left fun n hn => ?_
  have := btw (List.all_eq_true.mp h n hn)
  show V.int n = V.int ((n.toNat : Nat) : Int)
  rw [Int.toNat_of_nonneg this.1]
theorem sc_take_inventory : FnScope ["room", "t", "seen", "row", "unseen", "not_there", "n"] ["room", "t", "seen"] (defScope (top 68)) := ⟨rfl, rfl, rfl, by decide +kernel, rfl, by decide +kernel, by decide +kernel⟩
theorem g_take_inventory (D : DefAt K mg "take_inventory" (top 68)) (T : Txt K mg C) (m_has_tray : MtG P w K mg base C "has_tray" 1 ["self", "t"] (spHasTray C)) (g_is_seen_list : FnG P w K mg base "is_seen_list" 2 ["seen"] spSeen) (g_counted : FnG P w K mg base "counted" 1 ["row"] spCounted) :
    FnG P w K mg base "take_inventory" 3 ["room", "t", "seen"] (spInv C) := by
  refine D.fn sc_take_inventory (fun _ _ _ _ _ _ us hl => match us, hl with | [_, _, _], _ => rfl) (fun vs H Q E h => ?_) (fun f cdv Ar outer s H vs Q E hr h => ?_)
  · obtain ⟨_, _, _, _, _, _, _, rfl, _⟩ := h
    rfl
  · obtain ⟨a, b, A, r, log, t, l, rfl, R, I, hb, k⟩ := h
    have hr1 := hr.mono (show 1 ≤ 2 by decide)
    refine ⟨_, pss_cons (ps_if (pt_not (PW.pt (pw_and (pt_val (pe_mt m_has_tray T.cl hr1 (pv 0) (pa_cons (pv 1) pa_nil))) (pw_and1 (pt_val (pe_fn g_is_seen_list hr (pa_cons (pv 2) pa_nil))))))) (pss_one (ps_ret (pe_lst (pa_cons (pe_num (T.at_ 0 rfl)) pa_nil)))) pss_nil)
      (pss_cons (ps_set (i := 3) sc_take_inventory.nd rfl (Or.inr rfl) (pe_ix ix_list (pe_fld (pv 0) rfl) (pv 1) (fun _ _ => rfl)))
      (pss_cons (ps_setLc (i := 4) (own := [("n", 6)]) (g := gName 6) (by rfl) sc_take_inventory.nd rfl rfl (sw_true rfl rfl rfl (by decide +kernel)) (pi_list (pv 3)) (blkOk_by (own := [("n", 6)]) (N := ["room", "t", "seen", "row", "unseen", "not_there", "n"]) (sc := defScope (top 68)) (by decide +kernel)) (fun _ _ _ _ _ => (pg_name (i := 6) sc_take_inventory.nd rfl (Or.inl rfl))) (fun _ _ _ _ _ => (pts_one (pt_cmpR (op_notInK (K := K)) (pv 6) (pv 2) (by rfl)))) (fun _ _ _ _ _ => (pv 6)))
      (pss_cons (ps_setLc (i := 5) (own := [("n", 6)]) (g := gName 6) (by rfl) sc_take_inventory.nd rfl rfl (sw_true rfl rfl rfl (by decide +kernel)) (pi_list (pv 2)) (blkOk_by (own := [("n", 6)]) (N := ["room", "t", "seen", "row", "unseen", "not_there", "n"]) (sc := defScope (top 68)) (by decide +kernel)) (fun _ _ _ _ _ => (pg_name (i := 6) sc_take_inventory.nd rfl (Or.inl rfl))) (fun _ _ _ _ _ => (pts_one (pt_cmpR (op_notInK (K := K)) (pv 6) (pv 3) (by rfl)))) (fun _ _ _ _ _ => (pv 6)))
      (pss_one (ps_ret (pe_op op_cat (pe_fn g_counted hr1 (pa_cons (pv 4) pa_nil)) (pe_fn g_counted hr1 (pa_cons (pv 5) pa_nil)))))))), ?_⟩
    refine sqS_retLst (ansS_not (ansS_and (ans_val (val_meth (val_var rfl) R.ob (f_has_tray A) (va_1 (val_var rfl)) (has_tray_p R (t := t)))) fun _ Q2 q2 => ⟨_, rfl, b, l, rfl, hb, fun H' s' => ⟨_, rfl, q2 H' s'⟩⟩)) (fun H' s' => va_1 val_c) (by show 1 ≤ 1000; decide) (fun e => ?_) (fun e H1 s1 => ?_)
    · rw [if_pos (not_t e)] at k
      exact k
    have ok := not_f e
    rw [if_neg (by rw [ok]; decide), List.map_append, listRow_v, listRow_v] at k
    obtain ⟨o1, o2⟩ := Bool.and_eq_true_iff.mp ok
    obtain ⟨l1, _, l3⟩ := and3 (show (decide (l.length ≤ 40) && (l.eraseDups.length == l.length && l.all Vbenai.isNumber)) = true from o2)
    have l1 : l.length ≤ 40 := by simpa using l1
    have hb1 := s1 _ _ hb
    rw [nats_of l3] at hb1
    have ml : (l.map Int.toNat).length ≤ 40 := by rw [List.length_map]; exact l1
    generalize l.map Int.toNat = m at k hb1 ml
    obtain ⟨t0, t1⟩ := tr_lt o1
    obtain ⟨t, rfl⟩ := nat_of t0
    rw [Int.toNat_natCast] at k t1
    have R1 := R.same s1
    obtain ⟨ta, hta, hTa⟩ := R1.trayOf (i := t) t1
    -- row = room.trays[t]
    refine v_tray R1 T (val_var rfl) (val_var rfl) hta _ ?_
    -- unseen, not_there
    refine sq_filter (K := K) (l := Vbenai.trayAt r t) (b := ta) (fun n => !m.contains n) (val_var rfl) hTa (Nat.le_trans (I.trl t1) (by decide)) (fun _ => rfl) (fun _ => rfl) (fun n hn H' s' => ?_) ?_
    · exact a_in (neg := true) (val_var rfl) (val_var rfl) (s' _ _ hb1)
    intro p2 H2 hp2 s2 h2
    refine sq_filter (K := K) (l := m) (b := b) (fun n => !(Vbenai.trayAt r t).contains n) (val_var rfl) (s2 _ _ hb1) (Nat.le_trans ml (by decide)) (fun _ => rfl) (fun _ => rfl) (fun n hn H' s' => ?_) ?_
    · exact a_in (neg := true) (val_var rfl) (val_var rfl) (s' _ _ (s2 _ _ hTa))
    intro p3 H3 hp3 s3 h3
    have l4 : ((Vbenai.trayAt r t).filter fun n => !m.contains n).length ≤ 40 := Nat.le_trans (List.length_filter_le ..) (I.trl t1)
    have l5 : (m.filter fun n => !(Vbenai.trayAt r t).contains n).length ≤ 40 := Nat.le_trans (List.length_filter_le ..) ml
    generalize (Vbenai.trayAt r t).filter (fun n => !m.contains n) = x4 at k h2 l4
    generalize m.filter (fun n => !(Vbenai.trayAt r t).contains n) = x5 at k h3 l5
    refine ⟨_, rfl, p2, _, rfl, s3 _ _ h2, by rw [nv_len]; omega, fun p5 H5 hp5 s5 h5 => ?_⟩
    refine ⟨_, rfl, p3, _, rfl, s5 _ _ h3, by rw [nv_len]; omega, fun p6 H6 hp6 s6 h6 => ?_⟩
    refine ⟨p5, p6, _, _, rfl, rfl, s6 _ _ h5, h6, ?_, fun q hq => ?_⟩
    · simp only [List.length_cons, nv_len]
      exact Nat.le_trans (show x4.length + 1 + (x5.length + 1) ≤ 1000 by omega) (by decide)
    · have sall := ((((s1.trans s2).trans s3).trans s5).trans s6)
      exact k q _ (Same.free sall hq) (sall.trans (same_new hq)) upd_same
/-! ### tell_missing -/
theorem spot_len (L : List (List Nat)) (n : Nat) : decide ((((spot L n).length : Nat) : Int) = 0) = !L.flatten.contains n := by
  cases e : L.flatten.contains n with
  | true =>
    obtain ⟨t, ht⟩ := spotF_in (by simpa using e)
    unfold spot
    rw [ht]
    rfl
  | false =>
    have : n ∉ L.flatten := fun m => by
      have : L.flatten.contains n = true := by simpa using m
      rw [e] at this
      cases this
    unfold spot
    rw [spotF_out this]
    rfl
def spMissing (C : Addr) : Sp := fun vs H Q _ => ∃ (a : Addr) (A : Ad) (r : Vbenai.Room) (log : List Vbenai.Event), vs = [.ref a] ∧ RoomAt C H a A r log ∧ RInv r ∧
  NewL H ((Vbenai.listRow ((r.cards.filter fun x => !(Vbenai.lying r).contains x.number).map fun x => x.number)).map V.int) Q
theorem sc_tell_missing : FnScope ["room", "n"] ["room"] (defScope (top 70)) := ⟨rfl, rfl, rfl, by decide +kernel, rfl, by decide +kernel, by decide +kernel⟩
theorem g_tell_missing (D : DefAt K mg "tell_missing" (top 70)) (T : Txt K mg C) (g_counted : FnG P w K mg base "counted" 1 ["row"] spCounted) (g_spot_in : FnG P w K mg base "spot_in" 1 ["rows", "n"] spSpot) : FnG P w K mg base "tell_missing" 2 ["room"] (spMissing C) := by
  refine D.fn sc_tell_missing (fun _ _ _ _ _ _ us hl => match us, hl with | [_], _ => rfl) (fun vs H Q E h => ?_) (fun f cdv Ar outer s H vs Q E hr h => ?_)
  · obtain ⟨_, _, _, _, rfl, _⟩ := h
    rfl
  · obtain ⟨a, A, r, log, rfl, R, I, k⟩ := h
    refine ⟨_, pss_one (ps_ret (pe_fn g_counted hr (pa_cons (pe_lock (pe_lc (own := [("n", 1)]) (g := gName 1) (by rfl) sc_tell_missing.nd (pi_keys (pe_fld (pv 0) rfl)) (blkOk_by (own := [("n", 1)]) (N := ["room", "n"]) (sc := defScope (top 70)) (by decide +kernel)) (fun _ _ _ _ _ => (pg_name (i := 1) sc_tell_missing.nd rfl (Or.inl rfl))) (fun _ _ _ _ _ => (pts_one (pt_cmpR op_eq (pe_callB (call_lenK (K := K)) (by rfl) T.len PySem.boot_len (pa_cons (pe_fn g_spot_in hr (pa_cons (pe_fldK (K := K) (pv 0) rfl) (pa_cons (pv 1) pa_nil))) pa_nil)) pe_int (nomark _)))) (fun _ _ _ _ _ => (pv 1)))) pa_nil))), ?_⟩
    refine e_ret (e_call1 ?_)
    refine ⟨A.cd, _, R.dc, trivial, fun od => ?_⟩
    have n7 : ∀ {m : Nat} {x : Addr}, (a :: A.own)[m]? = some x → m ≠ 1 → x ≠ A.cd := fun hx hm => ne_at R.nd hx (show (a :: A.own)[1]? = some A.cd from rfl) hm
    have hbk : ∀ b o, H b = some o → b ≠ A.cd → upd H A.cd (.frz od (.dK (cK r.cards A.cs))) b = some o := fun b o h n => by rw [upd_ne n]; exact h
    have obl := hbk _ _ R.ob (n7 (m := 0) rfl (by decide))
    have dtl := hbk _ _ R.dt (n7 (m := 2) rfl (by decide))
    have ttl : Rows (upd H A.cd (.frz od (.dK (cK r.cards A.cs)))) A.ts (r.trays.map nv) := R.tt.off (off_ts R.nd (show (a :: A.own)[1]? = some A.cd from rfl) (by omega))
    refine ⟨_, rfl, a, C, _, _, _, rfl, obl, T.cl, T.nCards, f_cards A, A.cd, od, rfl, .inl ⟨_, upd_same, fun Dl hD => ?_⟩⟩
    have hcl : upd H A.cd (.frz od (.dK (cK r.cards A.cs))) A.cd = some (.frz od (.dK (cK r.cards A.cs))) := upd_same
    have hfree : ∀ b, upd H A.cd (.frz od (.dK (cK r.cards A.cs))) b = none → H b = none := fun b h => by
      cases q : H b with
      | none => rfl
      | some o =>
        by_cases e : b = A.cd
        · rw [e, upd_same] at h; cases h
        · rw [hbk b o q e] at h; cases h
    have hDH := hfree Dl hD
    generalize upd H A.cd (.frz od (.dK (cK r.cards A.cs))) = Hl at obl hD hcl hbk hfree dtl ttl
    refine lc_it (walk_keys (d := A.cd) (o := od) (kvs := cK r.cards A.cs)) (fun i H' => Same Hl H' ∧ H' Dl = some (.lst (nv (((r.cards.take i).filter fun x => !(Vbenai.lying r).contains x.number).map (·.number))))) ⟨same_new hD, upd_same⟩ (fun i H' _ q => q.1 _ _ hcl) ?_ ?_
    · rintro i x H1 H2 hi2 ⟨s1, h1⟩ ⟨rfl, kk, vv, hk, rfl⟩
      obtain ⟨c, u, hc, hu, rfl, rfl⟩ := cK_get hk
      refine ⟨rfl, ?_⟩
      have hi3 : i < r.cards.length := (List.getElem?_eq_some_iff.mp hc).1
      have ft := map_take_filter (p := fun x => !(Vbenai.lying r).contains x.number) hc
      refine ⟨_, rfl, a, C, _, _, _, rfl, s1 _ _ obl, T.cl, T.nTrays, f_trays A, _, rfl, A.td, A.ts, r.trays, c.number, rfl, s1 _ _ dtl, ttl.same s1, fun p H3 hp s3 h3 => ⟨p, _, rfl, .inl (SqL.of h3), ?_⟩⟩
      refine e_tc (r_eqI ?_)
      refine ⟨_, rfl, ?_⟩
      rw [nv_len, spot_len]
      have h1' := s3 _ _ h1
      cases e : (!r.trays.flatten.contains c.number) with
      | false =>
        refine iteF ⟨s1.trans s3, ?_⟩
        rw [ft, if_neg (by intro z; have z2 : (!r.trays.flatten.contains c.number) = true := z; rw [e] at z2; cases z2), List.append_nil]
        exact h1'
      | true =>
        refine iteT ⟨_, rfl, _, h1', ?_, fun b o z => ?_, ?_⟩
        · rw [nv_len, List.length_map]
          refine sz (Nat.le_trans (List.length_filter_le ..) ?_)
          rw [List.length_take]
          have := I.le
          omega
        · rw [upd_ne (ne_of_none z hD)]
          exact s3 _ _ (s1 b o z)
        · rw [upd_same, ft, if_pos (show (!(Vbenai.lying r).contains c.number) = true from e), nv_app]
          rfl
    rintro H1 ⟨s1, h1⟩
    rw [cK_len R.cl, List.take_length] at h1
    refine ⟨s1 _ _ hcl, ?_⟩
    have nDc : Dl ≠ A.cd := (ne_of_none hcl hD).symm
    have s2 : Same H (upd H1 A.cd (.dK (cK r.cards A.cs))) := fun b o h => by
      by_cases e : b = A.cd
      · rw [e, upd_same, ← R.dc, ← e, h]
      · rw [upd_ne e]
        exact s1 _ _ (hbk b o h e)
    have h2 : (upd H1 A.cd (.dK (cK r.cards A.cs))) Dl = some (.lst (nv ((r.cards.filter fun x => !(Vbenai.lying r).contains x.number).map (·.number)))) := by rw [upd_ne nDc]; exact h1
    generalize upd H1 A.cd (.dK (cK r.cards A.cs)) = H2 at s2 h2
    refine ⟨Dl, _, rfl, h2, ?_, ?_⟩
    · rw [nv_len, List.length_map]
      exact Nat.le_trans (List.length_filter_le ..) (Nat.le_trans I.le (by decide))
    · rw [listRow_v] at k
      exact NewL.back k s2
end
end Cc

set_option Elab.async false
set_option linter.all false
set_option maxRecDepth 100000
set_option maxHeartbeats 4000000
namespace Cc
open PySem PySem.Spec PyProof.Rows L2
open VbenCore (isBetween)

/-! ### doubles -/
def dblOf (cards : List Vbenai.Card) (x : Vbenai.Card × Nat) : List (Nat × Nat) := ((cards.drop (x.2 + 1)).filter fun y => y.home == x.1.home && y.key == x.1.key).map fun y => (x.1.number, y.number)
theorem doubles_eq (r : Vbenai.Room) : Vbenai.doubles r = r.cards.zipIdx.flatMap (dblOf r.cards) := rfl
theorem flatMap_len {α β : Type} (f : α → List β) (k : Nat) : ∀ l : List α, (∀ x ∈ l, (f x).length ≤ k) → (l.flatMap f).length ≤ l.length * k
  | [], _ => by simp
  | x :: l, h => by
    rw [List.flatMap_cons, List.length_append, List.length_cons, Nat.succ_mul]
    have h1 := h x List.mem_cons_self
    have h2 := flatMap_len f k l fun y hy => h y (List.mem_cons_of_mem _ hy)
    omega
theorem dbl_len (cards : List Vbenai.Card) (x : Vbenai.Card × Nat) : (dblOf cards x).length ≤ cards.length := by
  unfold dblOf
  rw [List.length_map]
  refine Nat.le_trans (List.length_filter_le ..) ?_
  rw [List.length_drop]
  omega
theorem dbls_len {cards : List Vbenai.Card} (h : cards.length ≤ 40) (i : Nat) : ((cards.zipIdx.take i).flatMap (dblOf cards)).length ≤ 1600 := by
  have h1 := flatMap_len (dblOf cards) 40 (cards.zipIdx.take i) fun x _ => Nat.le_trans (dbl_len cards x) h
  have h2 : (cards.zipIdx.take i).length ≤ 40 := by
    rw [List.length_take, List.length_zipIdx]
    omega
  have h3 := Nat.mul_le_mul_right 40 h2
  omega
/-- pairs of numbers, each in a tuple -/
def PT (H : Hp) (ps : List Addr) (L : List (Nat × Nat)) : Prop := ps.length = L.length ∧ ∀ (i : Nat) (t : Addr) (q : Nat × Nat), ps[i]? = some t → L[i]? = some q → H t = some (.tup [.int (q.1 : Int), .int (q.2 : Int)])
theorem PT.nil {H : Hp} : PT H [] [] := ⟨rfl, fun i t q h => by simp at h⟩
theorem PT.same {H H' : Hp} {ps : List Addr} {L : List (Nat × Nat)} (h : PT H ps L) (s : Same H H') : PT H' ps L := ⟨h.1, fun i t q h1 h2 => s _ _ (h.2 i t q h1 h2)⟩
theorem PT.upd {H : Hp} {ps : List Addr} {L : List (Nat × Nat)} (h : PT H ps L) {d : Addr} {xs : List V} (hd : H d = some (.lst xs)) (o : HO) : PT (L2.upd H d o) ps L := ⟨h.1, fun i t q h1 h2 => by
  have e := h.2 i t q h1 h2
  rw [upd_ne (ne_of e hd (by intro z; cases z))]
  exact e⟩
theorem PT.snoc {H : Hp} {ps : List Addr} {L : List (Nat × Nat)} (h : PT H ps L) {t : Addr} {q : Nat × Nat} (ht : H t = some (.tup [.int (q.1 : Int), .int (q.2 : Int)])) : PT H (ps ++ [t]) (L ++ [q]) := by
  refine ⟨by simp [h.1], fun i u z h1 h2 => ?_⟩
  by_cases hi : i < L.length
  · rw [List.getElem?_append_left (by rw [h.1]; exact hi)] at h1
    rw [List.getElem?_append_left hi] at h2
    exact h.2 i u z h1 h2
  · have hl : i = L.length := by
      have := (List.getElem?_eq_some_iff.mp h2).1
      simp at this
      omega
    subst hl
    rw [← h.1, List.getElem?_append_right (Nat.le_refl _), Nat.sub_self] at h1
    rw [List.getElem?_append_right (Nat.le_refl _), Nat.sub_self] at h2
    cases h1
    cases h2
    exact ht
theorem PT.rows {H : Hp} {ps : List Addr} {L : List (Nat × Nat)} (h : PT H ps L) : RowsA H ps (L.map fun q => [V.int (q.1 : Int), V.int (q.2 : Int)]) := ⟨by rw [List.length_map]; exact h.1, fun i t l h1 h2 => by
  rw [List.getElem?_map] at h2
  cases e : L[i]? with
  | none => rw [e] at h2; cases h2
  | some q =>
    rw [e] at h2
    cases h2
    exact .inr (h.2 i t q h1 e)⟩
theorem pairs_flat (L : List (Nat × Nat)) : (L.map fun q => [V.int (q.1 : Int), V.int (q.2 : Int)]).flatten = (L.flatMap fun x => VbenCore.ints [x.1, x.2]).map V.int := by
  induction L with
  | nil => rfl
  | cons x l ih =>
    rw [List.map_cons, List.flatten_cons, ih, List.flatMap_cons, List.map_append]
    rfl
theorem pairs_flat_len (L : List (Nat × Nat)) : (L.flatMap fun x => VbenCore.ints [x.1, x.2]).length = 2 * L.length := by
  induction L with
  | nil => rfl
  | cons x l ih =>
    rw [List.flatMap_cons, List.length_append, ih, List.length_cons]
    show 2 + _ = _
    omega
theorem cK_keys : ∀ {cards : List Vbenai.Card} {cs : List Addr}, cs.length = cards.length → ((cK cards cs).map fun kv => kV kv.1) = nv (cards.map (·.number))
  | [], [], _ => rfl
  | [], _ :: _, h => by simp at h
  | _ :: _, [], h => by simp at h
  | x :: cards, t :: cs, h => by
    rw [cK_cons, List.map_cons, cK_keys (by simpa using h)]
    rfl
theorem cut_from (l : List Nat) (i : Nat) : cutV (nv l) (some ((i : Nat) : Int)) none = nv (l.drop i) := by
  unfold cutV
  rw [HT.sIx_none, HT.sIx_nat, nv_len]
  unfold nv
  rw [← List.map_drop, ← List.map_take]
  refine congrArg _ ?_
  by_cases h : i ≤ l.length
  · rw [Nat.min_eq_left h]
    exact List.take_of_length_le (by rw [List.length_drop]; exact Nat.le_refl _)
  · rw [Nat.min_eq_right (by omega), List.drop_eq_nil_of_le (Nat.le_refl _), List.drop_eq_nil_of_le (by omega), List.take_nil]
def pairD (x : Vbenai.Card) : PyData := .tuple [.int (x.home : Int), .int x.key]
theorem pair_eqv (x y : Vbenai.Card) : PyData.eqv (pairD x) (pairD y) = (y.home == x.home && y.key == x.key) := by
  show (((x.home : Int) == (y.home : Int)) && ((x.key == y.key) && true)) = _
  rw [Bool.and_true, Bool.eq_iff_iff]
  simp only [Bool.and_eq_true, beq_iff_eq]
  constructor
  · rintro ⟨h1, h2⟩
    exact ⟨by omega, h2.symm⟩
  · rintro ⟨h1, h2⟩
    exact ⟨by omega, h2.symm⟩
theorem pair_shaped (x : Vbenai.Card) : SeqAt.shaped (pairD x) = true := rfl
def spDoubles (C : Addr) : Sp := fun vs H Q _ => ∃ (a : Addr) (A : Ad) (r : Vbenai.Room) (log : List Vbenai.Event), vs = [.ref a] ∧ RoomAt C H a A r log ∧ RInv r ∧
  NewL H ((((Vbenai.doubles r).length : Int) :: (Vbenai.doubles r).flatMap fun x => VbenCore.ints [x.1, x.2]).map V.int) Q
section
variable {P : Program} {w : World} {K : PySem.W.Frag} {mg : Str → Option Value} {base : Heap} {C : Addr}
theorem sc_tell_doubles : FnScope ["room", "told", "pairs", "at", "earlier", "later"] ["room"] (defScope (top 66)) := ⟨rfl, rfl, rfl, by decide +kernel, rfl, by decide +kernel, by decide +kernel⟩
theorem g_tell_doubles (D : DefAt K mg "tell_doubles" (top 66)) (T : Txt K mg C) (g_counted_rows : FnG P w K mg base "counted_rows" 1 ["rows"] spRows) : FnG P w K mg base "tell_doubles" 2 ["room"] (spDoubles C) := by
  refine D.fn sc_tell_doubles (fun _ _ _ _ _ _ us hl => match us, hl with | [_], _ => rfl) (fun vs H Q E h => ?_) (fun f cdv Ar outer s H vs Q E hr h => ?_)
  · obtain ⟨_, _, _, _, rfl, _⟩ := h
    rfl
  · obtain ⟨a, A, r, log, rfl, R, I, k⟩ := h
    have hu := hu_of hr
    refine ⟨_, pss_cons (ps_set (i := 1) sc_tell_doubles.nd rfl (Or.inl rfl) (pe_callTy (call_listD rfl) (by rfl) T.list (by decide +kernel) (pa_cons (pe_fld (pv 0) rfl) pa_nil)))
      (pss_cons (ps_set (i := 2) sc_tell_doubles.nd rfl (Or.inl rfl) (pe_lst pa_nil))
      (pss_cons (ps_for PassesOwn.never rfl (pi_enum (by rfl) T.enum (pa_cons (pv 1) pa_nil)) (pg_tup rfl (pgs_cons (pg_name (i := 3) sc_tell_doubles.nd rfl (Or.inl rfl)) (pgs_cons (pg_name (i := 4) sc_tell_doubles.nd rfl (Or.inl rfl)) pgs_nil))) (pss_one (ps_for PassesOwn.never rfl (pi_list (pe_slice sl_list (pv 1) (po_some (pe_op op_add (pv 3) pe_int)) po_none)) (pg_name (i := 5) sc_tell_doubles.nd rfl (Or.inl rfl)) (pss_one (ps_if (pt_cmpR (op_eqD hr.units) (pe_dget hu (pe_fld (pv 0) rfl) (pv 4) (fun _ _ => rfl)) (pe_dget hu (pe_fld (pv 0) rfl) (pv 5) (fun _ _ => rfl)) (nomark _)) (pss_one (ps_expr (pe_bm PySem.F.plainAttrs_list PySem.F.slot_list_append PySem.F.type_list_append mt_append (pv 2) (pa_cons (pe_tup (pa_cons (pv 4) (pa_cons (pv 5) pa_nil))) pa_nil)))) pss_nil)))))
      (pss_one (ps_ret (pe_fn g_counted_rows hr (pa_cons (pv 2) pa_nil)))))), ?_⟩
    -- told = list(room.cards); pairs = []
    refine ⟨_, rfl, a, C, _, _, _, rfl, R.ob, T.cl, T.nCards, f_cards A, A.cd, _, rfl, .inl R.dc, fun p hp => ?_⟩
    rw [cK_keys R.cl]
    have s0 : Same H (upd H p (.lst (nv (r.cards.map (·.number))))) := same_new hp
    have hp0 : upd H p (.lst (nv (r.cards.map (·.number)))) p = some (.lst (nv (r.cards.map (·.number)))) := upd_same
    generalize upd H p (.lst (nv (r.cards.map (·.number)))) = H0 at s0 hp0
    refine ⟨Nat.zero_le _, fun q hq => ?_⟩
    have nl : (nv (r.cards.map (·.number))).length = r.cards.length := by rw [nv_len, List.length_map]
    have sq : Same H0 (upd H0 q (.lst [])) := same_new hq
    -- for at, earlier in enumerate(told)
    refine ⟨_, rfl, p, _, rfl, SqL.of (sq _ _ hp0), ?_⟩
    refine for_it (walk_enum (K := K) (a := p) (xs := nv (r.cards.map (·.number)))) (fun i σ H' => ∃ (v3 v4 v5 : Option V) (ps : List Addr), σ = [some (.ref a), some (.ref p), some (.ref q), v3, v4, v5] ∧ Same H0 H' ∧ H' q = some (.lst (ps.map V.ref)) ∧ PT H' ps ((r.cards.zipIdx.take i).flatMap (dblOf r.cards)))
      ⟨none, none, none, [], rfl, sq, upd_same, PT.nil⟩ (fun i σ H' _ ⟨_, _, _, _, _, s1, _⟩ => SqL.of (s1 _ _ hp0)) ?_ ?_
    · rintro i x σ H1 H2 hi ⟨v3, v4, v5, ps, rfl, s1, h1, pt⟩ ⟨Tp, y, z, rfl, hT, rfl, hy, hz⟩
      cases hy
      rw [nl] at hi
      obtain ⟨n, hn, rfl⟩ := nv_get_inv hz
      obtain ⟨c, hc⟩ : ∃ c, r.cards[i]? = some c := ⟨_, List.getElem?_eq_getElem hi⟩
      rw [List.getElem?_map, hc] at hn
      cases hn
      have s2 : Same H1 (upd H1 Tp (.tup [.int (i : Int), .int (c.number : Int)])) := same_new hT
      refine ⟨Tp, _, rfl, SqT.of upd_same, rfl, ?_⟩
      generalize upd H1 Tp (.tup [.int (i : Int), .int (c.number : Int)]) = H2 at s2
      refine g_pair ?_
      -- for later in told[at + 1:]
      refine ⟨_, rfl, _, rfl, _, _, rfl, rfl, (i : Int) + 1, rfl, p, _, rfl, SqL.of (s2 _ _ (s1 _ _ hp0)), fun u hu2 => ?_⟩
      have ecut : cutV (nv (r.cards.map (·.number))) (some ((i : Int) + 1)) none = nv ((r.cards.drop (i + 1)).map (·.number)) := by
        have := cut_from (r.cards.map (·.number)) (i + 1)
        rw [← List.map_drop] at this
        exact this
      rw [ecut]
      have s3 : Same H2 (upd H2 u (.lst (nv ((r.cards.drop (i + 1)).map (·.number))))) := same_new hu2
      have hu3 : upd H2 u (.lst (nv ((r.cards.drop (i + 1)).map (·.number)))) u = some (.lst (nv ((r.cards.drop (i + 1)).map (·.number)))) := upd_same
      generalize upd H2 u (.lst (nv ((r.cards.drop (i + 1)).map (·.number)))) = H3 at s3 hu3
      have s13 := (s1.trans s2).trans s3
      have h3 := s3 _ _ (s2 _ _ h1)
      have nqu : u ≠ q := (ne_of_none (s2 _ _ h1) hu2).symm
      have ezip : r.cards.zipIdx[i]? = some (c, i) := by rw [List.getElem?_zipIdx, hc]; simp
      have etake : (r.cards.zipIdx.take (i + 1)).flatMap (dblOf r.cards) = (r.cards.zipIdx.take i).flatMap (dblOf r.cards) ++ dblOf r.cards (c, i) := by
        rw [List.take_add_one, ezip, List.flatMap_append]
        simp
      refine ⟨u, rfl, ⟨_, SqL.of hu3⟩, ?_⟩
      refine for_list (K := K) (a := u) (xs := nv ((r.cards.drop (i + 1)).map (·.number))) (fun j σ H' => ∃ (v5 : Option V) (ps : List Addr), σ = [some (.ref a), some (.ref p), some (.ref q), some (.int (i : Int)), some (.int (c.number : Int)), v5] ∧ Same H0 H' ∧ H' u = some (.lst (nv ((r.cards.drop (i + 1)).map (·.number)))) ∧ H' q = some (.lst (ps.map V.ref)) ∧
          PT H' ps ((r.cards.zipIdx.take i).flatMap (dblOf r.cards) ++ (((r.cards.drop (i + 1)).take j).filter fun y => y.home == c.home && y.key == c.key).map fun y => (c.number, y.number)))
        ⟨v5, ps, rfl, s13, hu3, h3, by rw [List.take_zero, List.filter_nil, List.map_nil, List.append_nil]; exact (pt.same s2).same s3⟩ (fun j σ H' _ ⟨_, _, _, _, hu4, _⟩ => SqL.of hu4) ?_ ?_
      · rintro j x σ H4 hj ⟨v5, ps, rfl, s4, hu4, h4, pt4⟩
        obtain ⟨m, hm, rfl⟩ := nv_get_inv hj
        have hjl : j < (r.cards.drop (i + 1)).length := by
          have := (List.getElem?_eq_some_iff.mp hm).1
          rw [List.length_map] at this
          exact this
        obtain ⟨d, hd⟩ : ∃ d, (r.cards.drop (i + 1))[j]? = some d := ⟨_, List.getElem?_eq_getElem hjl⟩
        rw [List.getElem?_map, hd] at hm
        cases hm
        have hd2 : r.cards[i + 1 + j]? = some d := by rw [← List.getElem?_drop]; exact hd
        have R4 := R.same (s0.trans s4)
        obtain ⟨tc, htc⟩ : ∃ t, A.cs[i]? = some t := ⟨_, List.getElem?_eq_getElem (by rw [R.cl]; exact hi)⟩
        obtain ⟨td, htd⟩ : ∃ t, A.cs[i + 1 + j]? = some t := ⟨_, List.getElem?_eq_getElem (by rw [R.cl]; exact (List.getElem?_eq_some_iff.mp hd2).1)⟩
        have gc : DGet H4 A.cd (.int (c.number : Int)) (some (.ref tc)) := by rw [← cK_at I.nd R.cl hc htc]; exact DGet.k (k := Sum.inl (c.number : Int)) R4.dc
        have gd : DGet H4 A.cd (.int (d.number : Int)) (some (.ref td)) := by rw [← cK_at I.nd R.cl hd2 htd]; exact DGet.k (k := Sum.inl (d.number : Int)) R4.dc
        have dp : ∀ {t : Addr} {x : Vbenai.Card}, H4 t = some (.tup [.int (x.home : Int), .int x.key]) → Dp K H4 (.ref t) (pairD x) := fun h => .tup (SqT.of h) (.cons (.int _) (.cons (.int _) .nil))
        have test : Ans (tTest (tOp (rEqD K) (tDGet (tFld K (tVar 0) "cards") (tVar 4)) (tDGet (tFld K (tVar 0) "cards") (tVar 5)))) [some (.ref a), some (.ref p), some (.ref q), some (.int (i : Int)), some (.int (c.number : Int)), some (.int (d.number : Int))] H4 (d.home == c.home && d.key == c.key) :=
          ans_cmp (val_dget (val_fld (val_var rfl) R4.ob T.cl T.nCards (f_cards A)) (val_var rfl) gc) (val_dget (val_fld (val_var rfl) R4.ob T.cl T.nCards (f_cards A)) (val_var rfl) gd)
            fun Q q => ⟨_, _, dp (R4.ct i tc c htc hc), dp (R4.ct _ td d htd hd2), pair_shaped c, pair_shaped d, by rw [pair_eqv]; exact q⟩
        have ft : ∀ b : Bool, (d.home == c.home && d.key == c.key) = b → (((r.cards.drop (i + 1)).take (j + 1)).filter fun y => y.home == c.home && y.key == c.key).map (fun y => (c.number, y.number)) = (((r.cards.drop (i + 1)).take j).filter fun y => y.home == c.home && y.key == c.key).map (fun y => (c.number, y.number)) ++ (if b = true then [(c.number, d.number)] else []) := fun b e => by
          rw [List.take_add_one, hd, List.filter_append, List.map_append]
          refine congrArg _ ?_
          show (List.filter _ [d]).map _ = _
          rw [List.filter_cons]
          cases b with
          | true => rw [if_pos e, if_pos rfl]; rfl
          | false => rw [if_neg (by rw [e]; decide), if_neg (by decide)]; rfl
        cases hb : (d.home == c.home && d.key == c.key) with
        | false =>
          refine st_no (test.to hb) ⟨_, ps, rfl, s4, hu4, h4, ?_⟩
          rw [ft false hb, if_neg (by decide), List.append_nil]
          exact pt4
        | true =>
          refine st_yes (test.to hb) ?_
          have l1 := dbls_len I.le i
          have l2 : ((((r.cards.drop (i + 1)).take j).filter fun y => y.home == c.home && y.key == c.key).map fun y => (c.number, y.number)).length ≤ 40 := by
            rw [List.length_map]
            refine Nat.le_trans (List.length_filter_le ..) ?_
            rw [List.length_take, List.length_drop]
            have := I.le
            omega
          have l3 := pt4.1
          rw [List.length_append] at l3
          refine ⟨_, rfl, .inl ⟨rfl, _, SqL.of h4⟩, _, rfl, _, rfl, (by show 2 ≤ sizeLine; decide), fun t ht => ?_⟩
          have s5 : Same H4 (upd H4 t (.tup [.int (c.number : Int), .int (d.number : Int)])) := same_new ht
          have ht5 : upd H4 t (.tup [.int (c.number : Int), .int (d.number : Int)]) t = some (.tup [.int (c.number : Int), .int (d.number : Int)]) := upd_same
          generalize upd H4 t (.tup [.int (c.number : Int), .int (d.number : Int)]) = H5 at s5 ht5
          have h5 := s5 _ _ h4
          refine ⟨q, _, _, rfl, rfl, h5, ?_, some (.int (d.number : Int)), ps ++ [t], rfl, fun b o z => ?_, by rw [upd_ne nqu]; exact s5 _ _ hu4, by rw [upd_same, List.map_append]; rfl, ?_⟩
          · rw [len_refs]
            exact Nat.lt_of_le_of_lt (show ps.length ≤ 5000 by omega) (by decide)
          · rw [upd_ne (ne_of_none z hq)]
            exact s5 _ _ (s4 _ _ z)
          · rw [ft true hb, if_pos rfl, ← List.append_assoc]
            refine ((pt4.same s5).upd h5 _).snoc (q := (c.number, d.number)) ?_
            rw [upd_ne (ne_of ht5 h5 (by intro z; cases z))]
            exact ht5
      · rintro σ H4 ⟨v5, ps, rfl, s4, hu4, h4, pt4⟩
        rw [nv_len, List.length_map, List.take_length] at pt4
        refine ⟨_, _, v5, ps, rfl, s4, h4, ?_⟩
        rw [etake]
        exact pt4
    · rintro σ H1 ⟨v3, v4, v5, ps, rfl, s1, h1, pt⟩
      rw [nl, List.take_of_length_le (by rw [List.length_zipIdx]; exact Nat.le_refl _), ← doubles_eq] at pt
      have l1 := dbls_len I.le r.cards.length
      rw [List.take_of_length_le (by rw [List.length_zipIdx]; exact Nat.le_refl _), ← doubles_eq] at l1
      refine st_retc (va_1 (val_var rfl)) ⟨q, ps, _, rfl, h1, pt.rows, ?_, ?_⟩
      · rw [pairs_flat, List.length_map, pairs_flat_len]
        omega
      · rw [pairs_flat, List.length_map]
        exact NewL.back k (s0.trans s1)
end
end Cc

set_option Elab.async false
set_option linter.all false
set_option maxRecDepth 100000
set_option maxHeartbeats 4000000
namespace Cc
open PySem PySem.Spec PyProof.Rows L2
open VbenCore (isBetween)

section
variable {σ : L2.St} {H : Hp} {tr tx : TE}
theorem a_le {i j : Int} (hx : Val tr σ H (.int i)) (hy : Val tx σ H (.int j)) : Ans (tTest (tOp (rI0 fun i j => .bl (decide (i ≤ j))) tr tx)) σ H (decide (i ≤ j)) := ans_cmp hx hy fun Q q => ⟨i, j, rfl, rfl, q⟩
theorem ixN_nat {n j : Nat} (h : j < n) : ixN n (j : Int) = some j := by
  unfold ixN
  rw [if_pos (by omega), if_pos (by omega), Int.toNat_natCast]
theorem val_max {i j : Int} (hx : Val tr σ H (.int i)) (hy : Val tx σ H (.int j)) : Val (tCB (fun xs H Q => ∃ i j, xs = [.int i, .int j] ∧ Q (.int (if j > i then j else i)) H) (tCons tr (tCons tx tNil))) σ H (.int (max i j)) :=
  Val.to (val_cb (va_cons hx (va_1 hy)) fun Q q => ⟨i, j, rfl, q⟩) (by
    refine congrArg V.int ?_
    split <;> omega)
end
theorem e_orV {σ : L2.St} {H : Hp} {ta tb : TE} {Q : VK} (h : ta σ H fun x H1 => ∃ c, x = .bl c ∧ if c = true then Q (.bl true) H1 else tb σ H1 Q) : tOrV ta tb σ H Q := h
theorem e_andV {σ : L2.St} {H : Hp} {ta tb : TE} {Q : VK} (h : ta σ H fun x H1 => ∃ c, x = .bl c ∧ if c = true then tb σ H1 Q else Q (.bl false) H1) : tAndV ta tb σ H Q := h
/-! ### lengths_from -/
/-- the lengths while place p is worked at: ones ahead of it, x there, what is due behind -/
def lenAt (ks : List Int) (p x : Nat) : List Nat := List.replicate p 1 ++ x :: Vbenai.lengthsFrom (ks.drop (p + 1))
theorem lenAt_len {ks : List Int} {p x : Nat} (h : p < ks.length) : (lenAt ks p x).length = ks.length := by
  unfold lenAt
  rw [List.length_append, List.length_replicate, List.length_cons, lens_len, List.length_drop]
  omega
theorem lenAt_here (ks : List Int) (p x : Nat) : (lenAt ks p x)[p]? = some x := by
  unfold lenAt
  rw [List.getElem?_append_right (by rw [List.length_replicate]; exact Nat.le_refl _), List.length_replicate, Nat.sub_self]
  rfl
theorem lenAt_behind (ks : List Int) (p x j : Nat) : (lenAt ks p x)[p + 1 + j]? = (Vbenai.lengthsFrom (ks.drop (p + 1)))[j]? := by
  unfold lenAt
  rw [List.getElem?_append_right (by rw [List.length_replicate]; omega), List.length_replicate, show p + 1 + j - p = j + 1 by omega]
  rfl
theorem lenAt_set (ks : List Int) (p x y : Nat) : (lenAt ks p x).set p y = lenAt ks p y := by
  unfold lenAt
  rw [List.set_append_right _ _ (by rw [List.length_replicate]; exact Nat.le_refl _), List.length_replicate, Nat.sub_self]
  rfl
theorem lenAt_first {ks : List Int} {p : Nat} (h : p < ks.length) : List.replicate (p + 1) 1 ++ Vbenai.lengthsFrom (ks.drop (p + 1)) = lenAt ks p 1 := by
  unfold lenAt
  rw [List.replicate_succ', List.append_assoc]
  rfl
theorem lenAt_last {ks : List Int} {p : Nat} {k : Int} (h : ks[p]? = some k) : lenAt ks p (1 + lenFold k ((ks.drop (p + 1)).zip (Vbenai.lengthsFrom (ks.drop (p + 1))))) = List.replicate p 1 ++ Vbenai.lengthsFrom (ks.drop p) := by
  unfold lenAt
  obtain ⟨h1, h2⟩ := List.getElem?_eq_some_iff.mp h
  rw [List.drop_eq_getElem_cons h1, h2, lens_cons]
def spLens : Sp := fun vs H Q _ => ∃ (b : Addr) (ks : List Int), vs = [.ref b] ∧ H b = some (.lst (ks.map V.int)) ∧ ks.length ≤ 1000 ∧ NewL H (nv (Vbenai.lengthsFrom ks)) Q
theorem nv_set (l : List Nat) (i n : Nat) : (nv l).set i (.int (n : Int)) = nv (l.set i n) := by
  unfold nv
  rw [List.map_set]
section
variable {P : Program} {w : World} {K : PySem.W.Frag} {mg : Str → Option Value} {base : Heap} {C : Addr}
theorem sc_lengths_from : FnScope ["keys", "lengths", "at", "later", "key"] ["keys"] (defScope (top 45)) := ⟨rfl, rfl, rfl, by decide +kernel, rfl, by decide +kernel, by decide +kernel⟩
theorem g_lengths_from (D : DefAt K mg "lengths_from" (top 45)) (T : Txt K mg C) : FnG P w K mg base "lengths_from" 1 ["keys"] spLens := by
  refine D.fn sc_lengths_from (fun _ _ _ _ _ _ us hl => match us, hl with | [_], _ => rfl) (fun vs H Q E h => ?_) (fun f cdv Ar outer s H vs Q E hr h => ?_)
  · obtain ⟨_, _, rfl, _⟩ := h
    rfl
  · obtain ⟨b, ks, rfl, hb, hl, k⟩ := h
    refine ⟨_, pss_cons (ps_setLc (i := 1) (own := [("key", 4)]) (g := gName 4) (tt := tYes) (by rfl) sc_lengths_from.nd rfl rfl (sw_true rfl rfl rfl (by decide +kernel)) (pi_list (pv 0)) (blkOk_by (own := [("key", 4)]) (N := ["keys", "lengths", "at", "later", "key"]) (sc := defScope (top 45)) (by decide +kernel)) (fun _ _ _ _ _ => (pg_name (i := 4) sc_lengths_from.nd rfl (Or.inl rfl))) (fun _ _ _ _ _ => pts_nil) (fun _ _ _ _ _ => pe_int))
      (pss_cons (ps_for PassesOwn.never rfl (pi_range3 rfl T.range (pa_cons (pe_op op_sub (pe_callB call_len_seq (by rfl) T.len PySem.boot_len (pa_cons (pv 0) pa_nil)) pe_int) (pa_cons (pe_un un_neg pe_int) (pa_cons (pe_un un_neg pe_int) pa_nil)))) (pg_name (i := 2) sc_lengths_from.nd rfl (Or.inl rfl)) (pss_one (ps_for PassesOwn.never rfl (pi_range2 rfl T.range (pa_cons (pe_op op_add (pv 2) pe_int) (pa_cons (pe_callB call_len_seq (by rfl) T.len PySem.boot_len (pa_cons (pv 0) pa_nil)) pa_nil))) (pg_name (i := 3) sc_lengths_from.nd rfl (Or.inl rfl)) (pss_one (ps_if (pt_cmpR op_le (pe_ix ix_list (pv 0) (pv 2) (fun _ _ => rfl)) (pe_ix ix_list (pv 0) (pv 3) (fun _ _ => rfl)) (nomark _)) (pss_one (ps_asg (pe_callB (call_max2 rfl) (by rfl) T.max (by decide +kernel) (pa_cons (pe_ix ix_list (pv 1) (pv 2) (fun _ _ => rfl)) (pa_cons (pe_op op_add pe_int (pe_ix ix_list (pv 1) (pv 3) (fun _ _ => rfl))) pa_nil))) (pg_sub (pv 1) (pv 2) set_list))) pss_nil)))))
      (pss_one (ps_ret (pv 1)))), ?_⟩
    -- lengths = [1 for key in keys]
    refine e_asg ?_
    refine lc_mapV (K := K) (xs := ks.map V.int) (ys := nv (List.replicate ks.length 1)) (val_var rfl) hb (by rw [nv_len, List.length_replicate, List.length_map]) (by rw [List.length_map]; exact hl) (fun v => rfl) ?_ _ ?_
    · intro i x y h1 h2 H' s'
      obtain ⟨n, hn, rfl⟩ := nv_get_inv h2
      have := (List.getElem?_eq_some_iff.mp hn).2
      rw [List.getElem_replicate] at this
      subst this
      exact val_c
    intro p H1 hp s1 h1
    have hb1 := s1 _ _ hb
    have npb : b ≠ p := ne_of_none hb hp
    -- for at in range(len(keys) - 1, -1, -1)
    refine ⟨_, rfl, b, _, rfl, .inl (SqL.of hb1), _, _, rfl, rfl, 1, rfl, 1, rfl, (ks.length : Int) - 1, -1, -1, ks.length, ?_, ?_, ?_⟩
    · rw [List.length_map]
    · have e : ((ks.length : Int) - 1 - (-1)).toNat = ks.length := by omega
      have z := RgC.neg (i := (ks.length : Int) - 1) (j := -1) (by omega) (by omega) (by decide) (by decide)
      rw [e] at z
      exact z
    refine for_rangeC (lo := (ks.length : Int) - 1) (c := -1) (n := ks.length) (fun i σ H' => ∃ v2 v3 v4 : Option V, σ = [some (.ref b), some (.ref p), v2, v3, v4] ∧ Same H H' ∧ H' p = some (.lst (nv (List.replicate (ks.length - i) 1 ++ Vbenai.lengthsFrom (ks.drop (ks.length - i))))))
      ⟨none, none, none, rfl, s1, ?_⟩ ?_ ?_
    · rw [Nat.sub_zero, List.drop_length]
      show H1 p = some (.lst (nv (List.replicate ks.length 1 ++ [])))
      rw [List.append_nil]
      exact h1
    · rintro i σ H2 hi ⟨v2, v3, v4, rfl, s2, h2⟩
      obtain ⟨q, hq⟩ : ∃ q, ks.length - i = q + 1 := ⟨ks.length - i - 1, by omega⟩
      have hqn : q < ks.length := by omega
      have eat : (ks.length : Int) - 1 + (i : Nat) * (-1) = ((q : Nat) : Int) := by omega
      rw [hq, lenAt_first hqn] at h2
      rw [eat]
      obtain ⟨kq, hkq⟩ : ∃ kq, ks[q]? = some kq := ⟨_, List.getElem?_eq_getElem hqn⟩
      have hb2 := s2 _ _ hb
      -- for later in range(at + 1, len(keys))
      refine ⟨_, rfl, _, _, rfl, rfl, _, rfl, b, _, rfl, .inl (SqL.of hb2), (q : Int) + 1, (ks.length : Int), ?_, ⟨by omega, by omega, by omega, by omega⟩, ?_⟩
      · rw [List.length_map]
      have en : ((ks.length : Int) - ((q : Int) + 1)).toNat = i := by omega
      rw [en]
      refine for_range (lo := (q : Int) + 1) (n := i) (fun j σ H' => ∃ v3 v4 : Option V, σ = [some (.ref b), some (.ref p), some (.int (q : Int)), v3, v4] ∧ Same H H' ∧ H' p = some (.lst (nv (lenAt ks q (1 + lenFold kq (((ks.drop (q + 1)).zip (Vbenai.lengthsFrom (ks.drop (q + 1)))).take j))))))
        ⟨v3, v4, rfl, s2, by rw [List.take_zero]; exact h2⟩ ?_ ?_
      · rintro j σ H3 hj ⟨v3, v4, rfl, s3, h3⟩
        have elat : (q : Int) + 1 + (j : Nat) = ((q + 1 + j : Nat) : Int) := by omega
        rw [elat]
        have hjl : q + 1 + j < ks.length := by omega
        obtain ⟨kl, hkl⟩ : ∃ kl, ks[q + 1 + j]? = some kl := ⟨_, List.getElem?_eq_getElem hjl⟩
        obtain ⟨nl, hnl⟩ : ∃ nl, (Vbenai.lengthsFrom (ks.drop (q + 1)))[j]? = some nl := ⟨_, List.getElem?_eq_getElem (by rw [lens_len, List.length_drop]; omega)⟩
        have hb3 := s3 _ _ hb
        have hzip : ((ks.drop (q + 1)).zip (Vbenai.lengthsFrom (ks.drop (q + 1))))[j]? = some (kl, nl) := List.getElem?_zip_eq_some.mpr ⟨by rw [List.getElem?_drop]; exact hkl, hnl⟩
        have ft : lenFold kq (((ks.drop (q + 1)).zip (Vbenai.lengthsFrom (ks.drop (q + 1)))).take (j + 1)) = if kq ≤ kl then max (lenFold kq (((ks.drop (q + 1)).zip (Vbenai.lengthsFrom (ks.drop (q + 1)))).take j)) nl else lenFold kq (((ks.drop (q + 1)).zip (Vbenai.lengthsFrom (ks.drop (q + 1)))).take j) := by
          rw [List.take_add_one, hzip]
          exact lenFold_snoc ..
        generalize lenFold kq (((ks.drop (q + 1)).zip (Vbenai.lengthsFrom (ks.drop (q + 1)))).take j) = m at h3 ft
        have gk : ∀ {i : Nat} {z : Int}, ks[i]? = some z → (ks.map V.int)[i]? = some (.int z) := fun h => by rw [List.getElem?_map, h]; rfl
        have test := a_le (σ := [some (.ref b), some (.ref p), some (.int (q : Int)), some (.int ((q + 1 + j : Nat) : Int)), v4]) (H := H3) (val_ixL (K := K) (ta := tVar 0) (tb := tVar 2) (j := q) (val_var rfl) (val_var rfl) (SqL.of hb3) rfl (gk hkq)) (val_ixL (K := K) (ta := tVar 0) (tb := tVar 3) (j := q + 1 + j) (val_var rfl) (val_var rfl) (SqL.of hb3) rfl (gk hkl))
        by_cases hle : kq ≤ kl
        · refine st_yes (test.to (decide_eq_true hle)) ?_
          refine val_max (val_ixL (K := K) (j := q) (val_var rfl) (val_var rfl) (SqL.of h3) rfl (nv_get (lenAt_here ks q (1 + m)))) (val_I (i := 1) (j := (nl : Int)) val_c (val_ixL (K := K) (j := q + 1 + j) (val_var rfl) (val_var rfl) (SqL.of h3) rfl (nv_get ((lenAt_behind ks q (1 + m) j).trans hnl)))) _ ?_
          refine ⟨_, rfl, _, rfl, p, _, (q : Int), q, rfl, rfl, h3, ixN_nat (by rw [nv_len, lenAt_len hqn]; exact hqn), some (.int ((q + 1 + j : Nat) : Int)), v4, rfl, fun b' o z => ?_, ?_⟩
          · rw [upd_ne (ne_of_none z hp)]
            exact s3 _ _ z
          · rw [upd_same, ft, if_pos hle]
            have e : V.int (max ((1 + m : Nat) : Int) (1 + (nl : Int))) = V.int ((1 + max m nl : Nat) : Int) := congrArg V.int (by omega)
            rw [e, nv_set, lenAt_set]
        · refine st_no (test.to (decide_eq_false hle)) ⟨_, _, rfl, s3, ?_⟩
          rw [ft, if_neg hle]
          exact h3
      · rintro σ H3 ⟨v3, v4, rfl, s3, h3⟩
        have ez : ((ks.drop (q + 1)).zip (Vbenai.lengthsFrom (ks.drop (q + 1)))).take i = (ks.drop (q + 1)).zip (Vbenai.lengthsFrom (ks.drop (q + 1))) := List.take_of_length_le (by rw [List.length_zip, lens_len, List.length_drop]; omega)
        rw [ez, lenAt_last hkq] at h3
        refine ⟨_, v3, v4, rfl, s3, ?_⟩
        rw [show ks.length - (i + 1) = q by omega]
        exact h3
    · rintro σ H2 ⟨v2, v3, v4, rfl, s2, h2⟩
      rw [Nat.sub_self] at h2
      exact ⟨_, rfl, k p H2 hp s2 h2⟩
/-! ### may_follow -/
def lastKey (r : Vbenai.Room) (l : List Nat) : Option Int := l.getLast?.map (Vbenai.keyOf r)
def spFollow (C : Addr) : Sp := fun vs H Q _ => ∃ (a b : Addr) (A : Ad) (r : Vbenai.Room) (log : List Vbenai.Event) (l : List Nat) (n : Nat), vs = [.ref a, .ref b, .int (n : Int)] ∧ RoomAt C H a A r log ∧ RInv r ∧ H b = some (.lst (nv l)) ∧ (∀ x ∈ l, x ∈ r.cards.map (·.number)) ∧ n ∈ r.cards.map (·.number) ∧ Q (.bl (fits (lastKey r l) (Vbenai.keyOf r n))) H
theorem sc_may_follow : FnScope ["room", "row", "n"] ["room", "row", "n"] (defScope (top 46)) := ⟨rfl, rfl, rfl, by decide +kernel, rfl, by decide +kernel, by decide +kernel⟩
theorem g_may_follow (D : DefAt K mg "may_follow" (top 46)) (T : Txt K mg C) (m_key_of : MtG P w K mg base C "key_of" 1 ["self", "n"] (spPart C 1)) : FnG P w K mg base "may_follow" 2 ["room", "row", "n"] (spFollow C) := by
  refine D.fn sc_may_follow (fun _ _ _ _ _ _ us hl => match us, hl with | [_, _, _], _ => rfl) (fun vs H Q E h => ?_) (fun f cdv Ar outer s H vs Q E hr h => ?_)
  · obtain ⟨_, _, _, _, _, _, _, rfl, _⟩ := h
    rfl
  · obtain ⟨a, b, A, r, log, l, n, rfl, R, I, hb, hm, hn, k⟩ := h
    refine ⟨_, pss_one (ps_ret (pe_or (pe_cmpR op_eq (pe_callB call_len_seq (by rfl) T.len PySem.boot_len (pa_cons (pv 1) pa_nil)) pe_int (nomark _)) (pe_one (pe_cmpR op_le (pe_mt m_key_of T.cl hr (pv 0) (pa_cons (pe_ix ix_list (pv 1) (pe_un un_neg pe_int) (fun _ _ => rfl)) pa_nil)) (pe_mt m_key_of T.cl hr (pv 0) (pa_cons (pv 2) pa_nil)) (nomark _))))), ?_⟩
    refine e_ret ?_
    refine e_orV (e_op ?_)
    refine v_len (K := K) (te := tVar 1) (val_var rfl) hb _ ?_
    refine e_tc (r_eqI ?_)
    refine ⟨_, rfl, ?_⟩
    rw [nv_len]
    rcases List.eq_nil_or_concat l with rfl | ⟨m, x, rfl⟩
    · exact iteT k
    · rw [List.concat_eq_append] at *
      have e : decide ((((m ++ [x]).length : Nat) : Int) = 0) = false := decide_eq_false (by rw [List.length_append]; simp; omega)
      rw [e]
      refine iteF ?_
      have hx : x ∈ r.cards.map (·.number) := hm x (by simp)
      have ix : Val (tOp (rIxL K) (tVar 1) (tUn (rU fun i => .int (-i)) (tC (.int 1)))) [some (.ref a), some (.ref b), some (.int (n : Int))] H (.int (x : Int)) :=
        val_op (val_var rfl) val_neg fun Q q => ⟨b, _, -1, .int (x : Int), rfl, rfl, SqL.of hb, by rw [nv_app]; exact atI_last _ _, q⟩
      refine val_I (g := fun i j => .bl (decide (i ≤ j))) (v_key R I hx (val_var rfl) ix) (v_key R I hn (val_var rfl) (val_var rfl)) _ ?_
      have ef : fits (lastKey r (m ++ [x])) (Vbenai.keyOf r n) = decide (Vbenai.keyOf r x ≤ Vbenai.keyOf r n) := by
        unfold lastKey
        rw [List.getLast?_append]
        rfl
      rw [ef] at k
      exact k
end
end Cc

set_option Elab.async false
set_option linter.all false
set_option maxRecDepth 100000
set_option maxHeartbeats 4000000
namespace Cc
open PySem PySem.Spec PyProof.Rows L2
open VbenCore (isBetween)

theorem e_asg1 {σ : L2.St} {H : Hp} {D : Ends} {te : TE} {i : Nat} (h : te σ H fun x H1 => D.nx (σ.set i (some x)) H1) : tAsg te (gName i) D σ H := h
theorem r_maxD {K : PySem.W.Frag} {H : Hp} {Q : VK} {p : Addr} {ns : List Nat} (h : H p = some (.lst (nv ns))) (q : Q (.int ((ns.foldl max 0 : Nat) : Int)) H) : rMaxD K [.ref p] [.int 0] H Q := by
  refine ⟨p, ns.map fun (n : Nat) => (n : Int), 0, rfl, rfl, SqL.of (by rw [← nv_int]; exact h), fun e => ?_, fun n ms e => ?_⟩
  · have : ns = [] := List.map_eq_nil_iff.mp e
    subst this
    exact q
  · cases ns with
    | nil => cases e
    | cons m ns =>
      obtain ⟨rfl, rfl⟩ := List.cons.inj e
      rw [foldl_max_int]
      rw [List.foldl_cons, Nat.zero_max] at q
      exact q
theorem v_maxD {σ : L2.St} {K : PySem.W.Frag} {H : Hp} {te : TE} {p : Addr} {ns : List Nat} (h : Val te σ H (.ref p)) (hp : H p = some (.lst (nv ns))) : Val (tCKw (rMaxD K) (tCons te tNil) (tCons (tC (.int 0)) tNil)) σ H (.int ((ns.foldl max 0 : Nat) : Int)) := fun Q q => h _ (r_maxD hp q)
theorem tagged_drop (r : Vbenai.Room) (l ns : List Nat) (i n len : Nat) (h1 : l[i]? = some n) (h2 : ns[i]? = some len) : (tagged r l ns).drop i = (n, Vbenai.keyOf r n, len) :: (tagged r l ns).drop (i + 1) := by
  have hz : (l.zip ns)[i]? = some (n, len) := List.getElem?_zip_eq_some.mpr ⟨h1, h2⟩
  have e : (tagged r l ns)[i]? = some (n, Vbenai.keyOf r n, len) := by
    unfold tagged
    rw [List.getElem?_map, hz]
    rfl
  obtain ⟨hl, he⟩ := List.getElem?_eq_some_iff.mp e
  rw [List.drop_eq_getElem_cons hl, he]
def spStay (C : Addr) : Sp := fun vs H Q _ => ∃ (a : Addr) (A : Ad) (r : Vbenai.Room) (log : List Vbenai.Event) (t : Nat), vs = [.ref a, .int (t : Int)] ∧ RoomAt C H a A r log ∧ RInv r ∧ t < r.trays.length ∧ NewL H (nv (Vbenai.staying r t)) Q
section
variable {P : Program} {w : World} {K : PySem.W.Frag} {mg : Str → Option Value} {base : Heap} {C : Addr}
theorem sc_staying_cards : FnScope ["room", "t", "at_home", "lengths", "wanted", "staying", "n", "length"] ["room", "t"] (defScope (top 47)) := ⟨rfl, rfl, rfl, by decide +kernel, rfl, by decide +kernel, by decide +kernel⟩
theorem g_staying_cards (D : DefAt K mg "staying_cards" (top 47)) (T : Txt K mg C) (m_home_of : MtG P w K mg base C "home_of" 1 ["self", "n"] (spPart C 0)) (m_key_of : MtG P w K mg base C "key_of" 1 ["self", "n"] (spPart C 1)) (g_lengths_from : FnG P w K mg base "lengths_from" 1 ["keys"] spLens)
    (g_may_follow : FnG P w K mg base "may_follow" 2 ["room", "row", "n"] (spFollow C)) : FnG P w K mg base "staying_cards" 3 ["room", "t"] (spStay C) := by
  refine D.fn sc_staying_cards (fun _ _ _ _ _ _ us hl => match us, hl with | [_, _], _ => rfl) (fun vs H Q E h => ?_) (fun f cdv Ar outer s H vs Q E hr h => ?_)
  · obtain ⟨_, _, _, _, _, rfl, _⟩ := h
    rfl
  · obtain ⟨a, A, r, log, t, rfl, R, I, ht, k⟩ := h
    have hr1 := hr.mono (show 1 ≤ 2 by decide)
    refine ⟨_, pss_cons (ps_setLc (i := 2) (own := [("n", 6)]) (g := gName 6) (by rfl) sc_staying_cards.nd rfl rfl (sw_true rfl rfl rfl (by decide +kernel)) (pi_list (pe_ix ix_list (pe_fld (pv 0) rfl) (pv 1) (fun _ _ => rfl))) (blkOk_by (own := [("n", 6)]) (N := ["room", "t", "at_home", "lengths", "wanted", "staying", "n", "length"]) (sc := defScope (top 47)) (by decide +kernel)) (fun _ _ _ _ _ => (pg_name (i := 6) sc_staying_cards.nd rfl (Or.inl rfl))) (fun _ _ _ _ _ => (pts_one (pt_cmpR op_eq (pe_mt m_home_of T.cl hr1 (pv 0) (pa_cons (pv 6) pa_nil)) (pv 1) (nomark _)))) (fun _ _ _ _ _ => (pv 6)))
      (pss_cons (ps_set (i := 3) sc_staying_cards.nd rfl (Or.inl rfl) (pe_fn g_lengths_from hr1 (pa_cons (pe_lc (own := [("n", 6)]) (g := gName 6) (tt := tYes) (by rfl) sc_staying_cards.nd (pi_list (pv 2)) (blkOk_by (own := [("n", 6)]) (N := ["room", "t", "at_home", "lengths", "wanted", "staying", "n", "length"]) (sc := defScope (top 47)) (by decide +kernel)) (fun _ _ _ _ _ => (pg_name (i := 6) sc_staying_cards.nd rfl (Or.inl rfl))) (fun _ _ _ _ _ => pts_nil) (fun _ _ _ _ _ => (pe_mt m_key_of T.cl hr1 (pv 0) (pa_cons (pv 6) pa_nil)))) pa_nil)))
      (pss_cons (ps_set (i := 4) sc_staying_cards.nd rfl (Or.inl rfl) (pe_callBK (cr_maxD rfl hr.units) (by rfl) T.max (by decide +kernel) (pa_cons (pv 3) pa_nil) (pk_cons pe_int pk_nil)))
      (pss_cons (ps_set (i := 5) sc_staying_cards.nd rfl (Or.inl rfl) (pe_lst pa_nil))
      (pss_cons (ps_for PassesOwn.never rfl (pi_zip (by rfl) T.zip (pa_cons (pv 2) (pa_cons (pv 3) pa_nil))) (pg_tup rfl (pgs_cons (pg_name (i := 6) sc_staying_cards.nd rfl (Or.inl rfl)) (pgs_cons (pg_name (i := 7) sc_staying_cards.nd rfl (Or.inl rfl)) pgs_nil))) (pss_one (ps_if (PW.pt (pw_and (pt_cmpR op_eq (pv 7) (pv 4) (nomark _)) (pw_and1 (pt_val (pe_fn g_may_follow hr (pa_cons (pv 0) (pa_cons (pv 5) (pa_cons (pv 6) pa_nil)))))))) (pss_cons (ps_expr (pe_bm PySem.F.plainAttrs_list PySem.F.slot_list_append PySem.F.type_list_append mt_append (pv 5) (pa_cons (pv 6) pa_nil)))
      (pss_one (ps_set (i := 4) sc_staying_cards.nd rfl (Or.inl rfl) (pe_op op_sub (pv 4) pe_int)))) pss_nil)))
      (pss_one (ps_ret (pv 5))))))), ?_⟩
    obtain ⟨ta, hta, hTa⟩ := R.trayOf (i := t) ht
    -- at_home
    refine sq_filter (K := K) (l := Vbenai.trayAt r t) (b := ta) (fun n => decide ((Vbenai.homeOf r n : Int) = (t : Int))) (v_tray R T (val_var rfl) (val_var rfl) hta) hTa (Nat.le_trans (I.trl ht) (by decide)) (fun _ => rfl) (fun _ => rfl) (fun n hn H' s' => ?_) ?_
    · exact a_eq (v_home (R.same s') I (lies_card I (tray_lies ht hn)) (val_var rfl) (val_var rfl)) (val_var rfl)
    intro p1 H1 hp1 s1 h1
    have eh : (Vbenai.trayAt r t).filter (fun n => decide ((Vbenai.homeOf r n : Int) = (t : Int))) = atHome r t := by
      unfold atHome
      refine List.filter_congr fun n _ => ?_
      rw [Bool.eq_iff_iff]
      simp only [decide_eq_true_eq, beq_iff_eq]
      omega
    rw [eh] at h1
    have hal : (atHome r t).length ≤ 40 := Nat.le_trans (List.length_filter_le ..) (I.trl ht)
    have hac : ∀ n ∈ atHome r t, n ∈ r.cards.map (·.number) := fun n hn => lies_card I (tray_lies ht (List.mem_filter.mp hn).1)
    -- lengths
    refine e_asg (e_call1 ?_)
    refine lc_mapN (K := K) (l := atHome r t) (f := fun n => V.int (Vbenai.keyOf r n)) (val_var rfl) h1 (by omega) (fun v => rfl) (fun n hn H' s' => ?_) _ ?_
    · exact v_key ((R.same s1).same s') I (hac n hn) (val_var rfl) (val_var rfl)
    intro p2 H2 hp2 s2 h2
    have ekeys : (atHome r t).map (fun n => V.int (Vbenai.keyOf r n)) = ((atHome r t).map (Vbenai.keyOf r)).map V.int := by rw [List.map_map]; rfl
    rw [ekeys] at h2
    refine ⟨p2, (atHome r t).map (Vbenai.keyOf r), rfl, h2, by rw [List.length_map]; omega, fun p3 H3 hp3 s3 h3 => ?_⟩
    have hll : (Vbenai.lengthsFrom ((atHome r t).map (Vbenai.keyOf r))).length = (atHome r t).length := by rw [lens_len, List.length_map]
    have hlp := lens_pos ((atHome r t).map (Vbenai.keyOf r))
    have hst := staying_eq r t
    generalize Vbenai.lengthsFrom ((atHome r t).map (Vbenai.keyOf r)) = ns at h3 hll hlp hst
    -- wanted
    refine e_asg ?_
    refine v_maxD (val_var rfl) h3 _ ?_
    -- staying = []
    refine ⟨Nat.zero_le _, fun q hq => ?_⟩
    have sq := same_new (o := .lst []) hq
    have s03 : Same H H3 := (s1.trans s2).trans s3
    have hq0 : H q = none := Same.free s03 hq
    have h1' := s3 _ _ (s2 _ _ h1)
    -- for n, length in zip(at_home, lengths)
    refine ⟨_, rfl, _, rfl, p1, p3, _, _, rfl, SqL.of (sq _ _ h1'), SqL.of (sq _ _ h3), ?_⟩
    refine for_it (walk_zip (K := K) (a := p1) (b := p3) (xs := nv (atHome r t)) (ys := nv ns) (n := (atHome r t).length) (by rw [nv_len, nv_len, hll, Nat.min_self]))
      (fun i σ H' => ∃ (v6 v7 : Option V) (wn : Nat) (st : List Nat), σ = [some (.ref a), some (.int (t : Int)), some (.ref p1), some (.ref p3), some (.int (wn : Int)), some (.ref q), v6, v7] ∧ Same H3 H' ∧ H' q = some (.lst (nv st)) ∧ st.length ≤ i ∧ (∀ x ∈ st, x ∈ r.cards.map (·.number)) ∧
        st ++ Vbenai.stayFrom wn (lastKey r st) ((tagged r (atHome r t) ns).drop i) = Vbenai.staying r t)
      ⟨none, none, ns.foldl max 0, [], rfl, sq, upd_same, Nat.le_refl _, fun x hx => by simp at hx, by rw [List.drop_zero, hst]; rfl⟩ (fun i σ H' _ ⟨_, _, _, _, _, s4, _⟩ => ⟨SqL.of (s4 _ _ h1'), SqL.of (s4 _ _ h3)⟩) ?_ ?_
    · rintro i x σ H4 H5 hi ⟨v6, v7, wn, st, rfl, s4, h4, hl4, hc4, he4⟩ ⟨Tp, y, z, rfl, hT, rfl, hy, hz⟩
      obtain ⟨n, hn, rfl⟩ := nv_get_inv hy
      obtain ⟨len, hlen, rfl⟩ := nv_get_inv hz
      have s5 : Same H4 (upd H4 Tp (.tup [.int (n : Int), .int (len : Int)])) := same_new hT
      refine ⟨Tp, _, rfl, SqT.of upd_same, rfl, ?_⟩
      generalize upd H4 Tp (.tup [.int (n : Int), .int (len : Int)]) = H5 at s5
      refine g_pair ?_
      have hnc := hac n (List.mem_of_getElem? hn)
      have R5 := R.same ((s03.trans s4).trans s5)
      have h5 := s5 _ _ h4
      rw [tagged_drop r _ _ i n len hn hlen, stay_step _ _ _ _ _ _ (hlp len (List.mem_of_getElem? hlen))] at he4
      have elw : decide ((len : Int) = (wn : Int)) = decide (len = wn) := by
        by_cases h : len = wn
        · rw [decide_eq_true h, decide_eq_true (by omega)]
        · rw [decide_eq_false h, decide_eq_false (by omega)]
      have test : Ans (tAnd (tTest (tOp rEq (tVar 7) (tVar 4))) (tB (tCall (spFollow C) [] E0 (tCons (tVar 0) (tCons (tVar 5) (tCons (tVar 6) tNil)))))) [some (.ref a), some (.int (t : Int)), some (.ref p1), some (.ref p3), some (.int (wn : Int)), some (.ref q), some (.int (n : Int)), some (.int (len : Int))] H5 (decide (len = wn) && fits (lastKey r st) (Vbenai.keyOf r n)) :=
        ans_and2 ((a_eq (val_var rfl) (val_var rfl)).to elw) (ans_val (val_call (va_cons (val_var rfl) (va_cons (val_var rfl) (va_1 (val_var rfl)))) fun Q E q => ⟨a, _, A, r, log, st, n, rfl, R5, I, h5, hc4, hnc, q⟩))
      cases hb : (decide (len = wn) && fits (lastKey r st) (Vbenai.keyOf r n)) with
      | false =>
        rw [hb, if_neg (by decide)] at he4
        exact st_no (test.to hb) ⟨_, _, wn, st, rfl, s4.trans s5, h5, by omega, hc4, he4⟩
      | true =>
        rw [hb, if_pos rfl] at he4
        refine st_yes (test.to hb) ?_
        have hw : len = wn := by simpa using (Bool.and_eq_true_iff.mp hb).1
        have hw1 : 1 ≤ wn := by rw [← hw]; exact hlp len (List.mem_of_getElem? hlen)
        refine sq_app (val_var rfl) (val_var rfl) h5 (by rw [nv_len]; omega) ?_
        refine e_asg1 ?_
        refine val_I (i := (wn : Int)) (j := 1) (val_var rfl) val_c _ ?_
        refine ⟨some (.int (n : Int)), some (.int (len : Int)), wn - 1, st ++ [n], ?_, fun b o z => ?_, by rw [upd_same, nv_app]; rfl, by rw [List.length_append]; simp; omega, fun x hx => ?_, ?_⟩
        · rw [show ((wn - 1 : Nat) : Int) = (wn : Int) - 1 by omega]
          rfl
        · rw [upd_ne (ne_of_none z hq)]
          exact s5 _ _ (s4 _ _ z)
        · rcases List.mem_append.mp hx with m | m
          · exact hc4 x m
          · rw [List.mem_singleton.mp m]; exact hnc
        · have el : lastKey r (st ++ [n]) = some (Vbenai.keyOf r n) := by
            unfold lastKey
            rw [List.getLast?_append]
            rfl
          rw [el, List.append_assoc]
          exact he4
    · rintro σ H4 ⟨v6, v7, wn, st, rfl, s4, h4, hl4, hc4, he4⟩
      have ed : (tagged r (atHome r t) ns).drop (atHome r t).length = [] := List.drop_eq_nil_of_le (by unfold tagged; rw [List.length_map, List.length_zip, hll, Nat.min_self]; exact Nat.le_refl _)
      rw [ed] at he4
      have es : st = Vbenai.staying r t := by
        rw [← he4]
        simp [Vbenai.stayFrom]
      rw [es] at h4
      exact ⟨_, rfl, k q H4 hq0 (s03.trans s4) h4⟩
theorem stay_len {r : Vbenai.Room} (I : RInv r) {t : Nat} (ht : t < r.trays.length) : (Vbenai.staying r t).length ≤ 40 := Nat.le_trans (staying_sub r t).length_le (I.trl ht)
/-! ### tell_staying -/
def spTellStay (C : Addr) : Sp := fun vs H Q _ => ∃ (a : Addr) (A : Ad) (r : Vbenai.Room) (log : List Vbenai.Event) (t : Int), vs = [.ref a, .int t] ∧ RoomAt C H a A r log ∧ RInv r ∧ NewL H ((if isTr r t = false then [-1] else Vbenai.listRow (Vbenai.staying r t.toNat)).map V.int) Q
theorem sc_tell_staying : FnScope ["room", "t"] ["room", "t"] (defScope (top 48)) := ⟨rfl, rfl, rfl, by decide +kernel, rfl, by decide +kernel, by decide +kernel⟩
theorem g_tell_staying (D : DefAt K mg "tell_staying" (top 48)) (T : Txt K mg C) (m_has_tray : MtG P w K mg base C "has_tray" 1 ["self", "t"] (spHasTray C)) (g_counted : FnG P w K mg base "counted" 1 ["row"] spCounted) (g_staying_cards : FnG P w K mg base "staying_cards" 3 ["room", "t"] (spStay C)) :
    FnG P w K mg base "tell_staying" 4 ["room", "t"] (spTellStay C) := by
  refine D.fn sc_tell_staying (fun _ _ _ _ _ _ us hl => match us, hl with | [_, _], _ => rfl) (fun vs H Q E h => ?_) (fun f cdv Ar outer s H vs Q E hr h => ?_)
  · obtain ⟨_, _, _, _, _, rfl, _⟩ := h
    rfl
  · obtain ⟨a, A, r, log, t, rfl, R, I, k⟩ := h
    have hr1 := hr.mono (show 1 ≤ 3 by decide)
    refine ⟨_, pss_cons (ps_if (pt_not (pt_val (pe_mt m_has_tray T.cl hr1 (pv 0) (pa_cons (pv 1) pa_nil)))) (pss_one (ps_ret (pe_lst (pa_cons (pe_num (T.at_ 0 rfl)) pa_nil)))) pss_nil)
      (pss_one (ps_ret (pe_fn g_counted hr1 (pa_cons (pe_fn g_staying_cards hr (pa_cons (pv 0) (pa_cons (pv 1) pa_nil))) pa_nil)))), ?_⟩
    refine sq_retLst (ans_not (ans_val (val_meth (val_var rfl) R.ob (f_has_tray A) (va_1 (val_var rfl)) (has_tray_p R (t := t))))) (va_1 val_c) (by show 1 ≤ 1000; decide) (fun e => ?_) (fun e => ?_)
    · rw [if_pos (not_t e)] at k
      exact k
    have ok := not_f e
    rw [if_neg (by rw [ok]; decide), listRow_v] at k
    obtain ⟨t0, t1⟩ := tr_lt ok
    obtain ⟨t, rfl⟩ := nat_of t0
    rw [Int.toNat_natCast] at k t1
    refine e_ret (e_call1 ?_)
    refine ⟨_, rfl, _, rfl, a, A, r, log, t, rfl, R, I, t1, fun p H1 hp s1 h1 => ?_⟩
    exact ⟨p, _, rfl, h1, by rw [nv_len]; exact Nat.le_trans (stay_len I t1) (by decide), NewL.back k s1⟩
/-! ### all_staying -/
def spAllStay (C : Addr) : Sp := fun vs H Q _ => ∃ (a : Addr) (A : Ad) (r : Vbenai.Room) (log : List Vbenai.Event), vs = [.ref a] ∧ RoomAt C H a A r log ∧ RInv r ∧ NewL H (nv (Vbenai.allStaying r)) Q
theorem sc_all_staying : FnScope ["room", "staying", "t"] ["room"] (defScope (top 49)) := ⟨rfl, rfl, rfl, by decide +kernel, rfl, by decide +kernel, by decide +kernel⟩
theorem g_all_staying (D : DefAt K mg "all_staying" (top 49)) (T : Txt K mg C) (g_staying_cards : FnG P w K mg base "staying_cards" 3 ["room", "t"] (spStay C)) : FnG P w K mg base "all_staying" 4 ["room"] (spAllStay C) := by
  refine D.fn sc_all_staying (fun _ _ _ _ _ _ us hl => match us, hl with | [_], _ => rfl) (fun vs H Q E h => ?_) (fun f cdv Ar outer s H vs Q E hr h => ?_)
  · obtain ⟨_, _, _, _, rfl, _⟩ := h
    rfl
  · obtain ⟨a, A, r, log, rfl, R, I, k⟩ := h
    refine ⟨_, pss_cons (ps_set (i := 1) sc_all_staying.nd rfl (Or.inl rfl) (pe_lst pa_nil))
      (pss_cons (ps_for PassesOwn.never rfl (pi_range1 rfl T.range (pa_cons (pe_callB call_len_seq (by rfl) T.len PySem.boot_len (pa_cons (pe_fld (pv 0) rfl) pa_nil)) pa_nil)) (pg_name (i := 2) sc_all_staying.nd rfl (Or.inl rfl)) (pss_one (ps_expr (pe_bm PySem.F.plainAttrs_list PySem.F.slot_list_extend PySem.F.type_list_extend mt_extend (pv 1) (pa_cons (pe_fn g_staying_cards hr (pa_cons (pv 0) (pa_cons (pv 2) pa_nil))) pa_nil)))))
      (pss_one (ps_ret (pv 1)))), ?_⟩
    have tl : A.ts.length = r.trays.length := by have := R.tt.1; rw [List.length_map] at this; exact this
    refine ⟨Nat.zero_le _, fun q hq => ?_⟩
    have sq := same_new (o := .lst []) hq
    have R0 := R.same sq
    have htr := I.tr
    refine ⟨_, rfl, a, C, _, _, _, rfl, R0.ob, T.cl, T.nTrays, f_trays A, A.td, _, rfl, .inl (SqL.of R0.dt), (r.trays.length : Int), ?_, by omega, by omega, ?_⟩
    · rw [len_refs, tl]
    rw [Int.toNat_natCast]
    refine for_range (lo := 0) (n := r.trays.length) (fun i σ H' => ∃ v2 : Option V, σ = [some (.ref a), some (.ref q), v2] ∧ Same H H' ∧ H' q = some (.lst (nv ((List.range i).flatMap (Vbenai.staying r))))) ⟨none, rfl, sq, upd_same⟩ ?_ ?_
    · rintro i σ H1 hi ⟨v2, rfl, s1, h1⟩
      rw [Int.zero_add]
      refine ⟨_, rfl, .inl ⟨rfl, _, SqL.of h1⟩, _, rfl, _, rfl, a, A, r, log, i, rfl, R.same s1, I, hi, fun p H2 hp s2 h2 => ?_⟩
      have h1' := s2 _ _ h1
      have l1 : ((List.range i).flatMap (Vbenai.staying r)).length ≤ 40 * 4 := by
        have z := flatMap_len (Vbenai.staying r) 40 (List.range i) fun x hx => stay_len I (Nat.lt_trans (List.mem_range.mp hx) hi)
        rw [List.length_range] at z
        omega
      have l2 := stay_len I hi
      refine ⟨q, p, _, _, rfl, rfl, h1', h2, ?_, some (.int (i : Int)), rfl, fun b o z => ?_, ?_⟩
      · rw [nv_len, nv_len]
        exact Nat.le_trans (show _ ≤ 1000 by omega) (by decide)
      · rw [upd_ne (ne_of_none z hq)]
        exact s2 _ _ (s1 _ _ z)
      · rw [upd_same, List.range_succ, List.flatMap_append, nv_app]
        simp
    · rintro σ H1 ⟨v2, rfl, s1, h1⟩
      exact ⟨_, rfl, k q H1 hq s1 h1⟩
theorem all_stay_len {r : Vbenai.Room} (I : RInv r) : (Vbenai.allStaying r).length ≤ 40 := Nat.le_trans (allStaying_sub r).length_le I.lyl
/-! ### cards_to_move, tell_least -/
def spToMove (C : Addr) : Sp := fun vs H Q _ => ∃ (a : Addr) (A : Ad) (r : Vbenai.Room) (log : List Vbenai.Event), vs = [.ref a] ∧ RoomAt C H a A r log ∧ RInv r ∧ NewL H (nv (toMove r)) Q
theorem to_move_len {r : Vbenai.Room} (I : RInv r) : (toMove r).length ≤ 40 := Nat.le_trans (List.length_filter_le ..) I.lyl
theorem sc_cards_to_move : FnScope ["room", "staying", "to_move", "row", "n"] ["room"] (defScope (top 50)) := ⟨rfl, rfl, rfl, by decide +kernel, rfl, by decide +kernel, by decide +kernel⟩
theorem g_cards_to_move (D : DefAt K mg "cards_to_move" (top 50)) (T : Txt K mg C) (g_all_staying : FnG P w K mg base "all_staying" 4 ["room"] (spAllStay C)) : FnG P w K mg base "cards_to_move" 5 ["room"] (spToMove C) := by
  refine D.fn sc_cards_to_move (fun _ _ _ _ _ _ us hl => match us, hl with | [_], _ => rfl) (fun vs H Q E h => ?_) (fun f cdv Ar outer s H vs Q E hr h => ?_)
  · obtain ⟨_, _, _, _, rfl, _⟩ := h
    rfl
  · obtain ⟨a, A, r, log, rfl, R, I, k⟩ := h
    refine ⟨_, pss_cons (ps_set (i := 1) sc_cards_to_move.nd rfl (Or.inr rfl) (pe_fn g_all_staying hr (pa_cons (pv 0) pa_nil)))
      (pss_cons (ps_set (i := 2) sc_cards_to_move.nd rfl (Or.inl rfl) (pe_lst pa_nil))
      (pss_cons (ps_for PassesOwn.never rfl (pi_list (pe_fld (pv 0) rfl)) (pg_name (i := 3) sc_cards_to_move.nd rfl (Or.inl rfl)) (pss_one (ps_expr (pe_bm PySem.F.plainAttrs_list PySem.F.slot_list_extend PySem.F.type_list_extend mt_extend (pv 2) (pa_cons (pe_lc (own := [("n", 4)]) (g := gName 4) (by rfl) sc_cards_to_move.nd (pi_list (pv 3)) (blkOk_by (own := [("n", 4)]) (N := ["room", "staying", "to_move", "row", "n"]) (sc := defScope (top 50)) (by decide +kernel)) (fun _ _ _ _ _ => (pg_name (i := 4) sc_cards_to_move.nd rfl (Or.inl rfl))) (fun _ _ _ _ _ => (pts_one (pt_cmpR (op_notInK (K := K)) (pv 4) (pv 1) (by rfl)))) (fun _ _ _ _ _ => (pv 4))) pa_nil)))))
      (pss_one (ps_ret (pv 2))))), ?_⟩
    have tl : A.ts.length = r.trays.length := by have := R.tt.1; rw [List.length_map] at this; exact this
    refine ⟨_, rfl, a, A, r, log, rfl, R, I, fun p H1 hp s1 h1 => ?_⟩
    refine ⟨Nat.zero_le _, fun q hq => ?_⟩
    have sq := same_new (o := .lst []) hq
    have R1 := (R.same s1).same sq
    have hq0 : H q = none := Same.free s1 hq
    have h1' := sq _ _ h1
    refine ⟨_, rfl, a, C, _, _, _, rfl, R1.ob, T.cl, T.nTrays, f_trays A, A.td, rfl, ⟨_, SqL.of R1.dt⟩, ?_⟩
    refine for_list (K := K) (a := A.td) (xs := A.ts.map V.ref) (fun i σ H' => ∃ v3 v4 : Option V, σ = [some (.ref a), some (.ref p), some (.ref q), v3, v4] ∧ Same H1 H' ∧ H' q = some (.lst (nv ((r.trays.take i).flatMap fun l => l.filter fun n => !(Vbenai.allStaying r).contains n))))
      ⟨none, none, rfl, sq, upd_same⟩ (fun i σ H' _ ⟨_, _, _, s2, _⟩ => SqL.of (s2 _ _ (R.same s1).dt)) ?_ ?_
    · rintro i x σ H2 hi ⟨v3, v4, rfl, s2, h2⟩
      obtain ⟨t, ht, rfl⟩ := refs_inv hi
      have hlt : i < r.trays.length := by rw [← tl]; exact (List.getElem?_eq_some_iff.mp ht).1
      obtain ⟨l, hli⟩ : ∃ l, r.trays[i]? = some l := ⟨_, List.getElem?_eq_getElem hlt⟩
      have R2 := (R.same s1).same s2
      have hrow := R2.tt.2 i t (nv l) ht (by rw [List.getElem?_map, hli]; rfl)
      have ll : l.length ≤ 40 := by
        have := I.trl hlt
        unfold Vbenai.trayAt at this
        rw [getD_of hli] at this
        exact this
      have h1'' := s2 _ _ h1
      refine ⟨_, rfl, .inl ⟨rfl, _, SqL.of h2⟩, ?_⟩
      refine lc_filter (K := K) (l := l) (b := t) (fun n => !(Vbenai.allStaying r).contains n) (val_var rfl) hrow (by omega) (fun v => rfl) (fun v => rfl) (fun n hn H' s' => ?_) ?_
      · exact a_in (neg := true) (val_var rfl) (val_var rfl) (s' _ _ h1'')
      intro p3 H3 hp3 s3 h3
      have h2' := s3 _ _ h2
      have ft : ((r.trays.take (i + 1)).flatMap fun l => l.filter fun n => !(Vbenai.allStaying r).contains n) = ((r.trays.take i).flatMap fun l => l.filter fun n => !(Vbenai.allStaying r).contains n) ++ l.filter fun n => !(Vbenai.allStaying r).contains n := by
        rw [List.take_add_one, hli, List.flatMap_append]
        simp
      have l1 : ((r.trays.take i).flatMap fun l => l.filter fun n => !(Vbenai.allStaying r).contains n).length ≤ 40 * 4 := by
        have z := flatMap_len (fun l : List Nat => l.filter fun n => !(Vbenai.allStaying r).contains n) 40 (r.trays.take i) fun x hx => by
          refine Nat.le_trans (List.length_filter_le ..) ?_
          exact Nat.le_trans (flen_le (List.mem_of_mem_take hx)) I.lyl
        rw [List.length_take] at z
        have := I.tr
        omega
      have l2 : (l.filter fun n => !(Vbenai.allStaying r).contains n).length ≤ 40 := Nat.le_trans (List.length_filter_le ..) ll
      refine ⟨q, p3, _, _, rfl, rfl, h2', h3, ?_, some (.ref t), v4, rfl, fun b o z => ?_, ?_⟩
      · rw [nv_len, nv_len]
        exact Nat.le_trans (show _ ≤ 1000 by omega) (by decide)
      · rw [upd_ne (ne_of_none z hq)]
        exact s3 _ _ (s2 _ _ z)
      · rw [upd_same, ft, nv_app]
    · rintro σ H2 ⟨v3, v4, rfl, s2, h2⟩
      rw [len_refs, tl, List.take_length, toMove_flat] at h2
      exact ⟨_, rfl, k q H2 hq0 (s1.trans s2) h2⟩
def spLeast (C : Addr) : Sp := fun vs H Q _ => ∃ (a : Addr) (A : Ad) (r : Vbenai.Room) (log : List Vbenai.Event), vs = [.ref a] ∧ RoomAt C H a A r log ∧ RInv r ∧ NewL H (([(Vbenai.least r : Int)] : List Int).map V.int) Q
theorem sc_tell_least : FnScope ["room"] ["room"] (defScope (top 51)) := ⟨rfl, rfl, rfl, by decide +kernel, rfl, by decide +kernel, by decide +kernel⟩
theorem g_tell_least (D : DefAt K mg "tell_least" (top 51)) (T : Txt K mg C) (g_cards_to_move : FnG P w K mg base "cards_to_move" 5 ["room"] (spToMove C)) : FnG P w K mg base "tell_least" 6 ["room"] (spLeast C) := by
  refine D.fn sc_tell_least (fun _ _ _ _ _ _ us hl => match us, hl with | [_], _ => rfl) (fun vs H Q E h => ?_) (fun f cdv Ar outer s H vs Q E hr h => ?_)
  · obtain ⟨_, _, _, _, rfl, _⟩ := h
    rfl
  · obtain ⟨a, A, r, log, rfl, R, I, k⟩ := h
    refine ⟨_, pss_one (ps_ret (pe_lst (pa_cons (pe_callB call_len_seq (by rfl) T.len PySem.boot_len (pa_cons (pe_fn g_cards_to_move hr (pa_cons (pv 0) pa_nil)) pa_nil)) pa_nil))), ?_⟩
    refine ⟨_, rfl, a, A, r, log, rfl, R, I, fun p H1 hp s1 h1 => ⟨p, _, rfl, .inl (SqL.of h1), (by show 1 ≤ sizeLine; decide), fun q hq => ?_⟩⟩
    rw [nv_len, least_eq I]
    exact k q _ (Same.free s1 hq) (s1.trans (same_new hq)) upd_same
end
end Cc

set_option Elab.async false
set_option linter.all false
set_option maxRecDepth 100000
set_option maxHeartbeats 4000000
namespace Cc
open PySem PySem.Spec PyProof.Rows L2
open VbenCore (isBetween)

/-! ### keys that never fall -/
theorem adj_pair (f : Nat → Int) : ∀ l : List Nat, ((l.zip (l.drop 1)).all fun x => decide (f x.1 ≤ f x.2)) = decide ((l.map f).Pairwise (· ≤ ·))
  | [] => by simp
  | [x] => by simp
  | x :: y :: l => by
    have ih := adj_pair f (y :: l)
    have e : ((x :: y :: l).zip ((x :: y :: l).drop 1)) = (x, y) :: (y :: l).zip ((y :: l).drop 1) := rfl
    rw [e, List.all_cons, ih, Bool.eq_iff_iff]
    simp only [Bool.and_eq_true, decide_eq_true_eq, List.map_cons, List.pairwise_cons, List.mem_cons, forall_eq_or_imp]
    constructor
    · rintro ⟨h1, h2, h3⟩
      exact ⟨⟨h1, fun z hz => Int.le_trans h1 (h2 z hz)⟩, h2, h3⟩
    · rintro ⟨⟨h1, _⟩, h2, h3⟩
      exact ⟨h1, h2, h3⟩
theorem sorted_dec {ks ns : List Int} (p : ns.Perm ks) (s : ns.Pairwise (· ≤ ·)) : decide (ks = ns) = decide (ks.Pairwise (· ≤ ·)) := by
  by_cases h : ks.Pairwise (· ≤ ·)
  · rw [decide_eq_true h]
    exact decide_eq_true (List.Perm.eq_of_pairwise (le := fun a b : Int => a ≤ b) (fun a b _ _ h1 h2 => Int.le_antisymm h1 h2) h s p.symm)
  · rw [decide_eq_false h]
    refine decide_eq_false fun e => h ?_
    rw [e]
    exact s
theorem eqv_ints : ∀ xs ys : List Int, PyData.eqvAll (xs.map PyData.int) (ys.map PyData.int) = decide (xs = ys)
  | [], [] => rfl
  | [], y :: ys => rfl
  | x :: xs, [] => rfl
  | x :: xs, y :: ys => by
    show ((x == y) && PyData.eqvAll (xs.map PyData.int) (ys.map PyData.int)) = _
    rw [eqv_ints xs ys, Bool.eq_iff_iff]
    simp
theorem lay_ints : ∀ xs : List Int, PyData.canLayAll0 (xs.map PyData.int) = true
  | [] => rfl
  | x :: xs => by
    show (true && PyData.canLayAll0 (xs.map PyData.int)) = true
    rw [lay_ints xs]
    rfl
theorem ints_shaped (xs : List Int) : SeqAt.shaped (.list (xs.map PyData.int)) = true := by
  unfold SeqAt.shaped
  have h := depth_ints xs
  have e : PyData.canLay0 (.list (xs.map PyData.int)) = true := lay_ints xs
  rw [e]
  have d : PyData.depth (.list (xs.map PyData.int)) ≤ 64 := by
    show PyData.depthAll (xs.map PyData.int) + 1 ≤ 64
    omega
  exact decide_eq_true d
theorem dp_ints {K : PySem.W.Frag} {H : Hp} : ∀ xs : List Int, DpAll K H (xs.map V.int) (xs.map PyData.int)
  | [] => .nil
  | x :: xs => .cons (.int x) (dp_ints xs)
/-! ### the first of a range -/
theorem find_range_some {p : Nat → Bool} {n i : Nat} (hi : i < n) (h : p i = true) (hn : ∀ j, j < i → p j = false) : (List.range n).find? p = some i := by
  rw [List.find?_eq_some_iff_append]
  refine ⟨h, List.range i, (List.range (n - i - 1)).map (· + (i + 1)), ?_, fun a ha => by rw [hn a (List.mem_range.mp ha)]; rfl⟩
  have e : n = i + (1 + (n - i - 1)) := by omega
  conv => lhs; rw [e]
  rw [List.range_add, List.range_add]
  simp only [List.range_one, List.map_append, List.map_cons, List.map_nil, List.map_map, Nat.add_zero]
  refine congrArg (fun z : List Nat => List.range i ++ z) ?_
  show i :: _ = i :: _
  refine congrArg (i :: ·) (List.map_congr_left fun a _ => ?_)
  show i + (1 + a) = a + (i + 1)
  omega
theorem find_range_none {p : Nat → Bool} {n : Nat} (hn : ∀ j, j < n → p j = false) : (List.range n).find? p = none := by
  rw [List.find?_eq_none]
  intro x hx
  rw [hn x (List.mem_range.mp hx)]
  decide
/-! ### is_right, tell_right -/
def spRight (C : Addr) : Sp := fun vs H Q _ => ∃ (a : Addr) (A : Ad) (r : Vbenai.Room) (log : List Vbenai.Event) (t : Nat), vs = [.ref a, .int (t : Int)] ∧ RoomAt C H a A r log ∧ RInv r ∧ t < r.trays.length ∧ ∀ H', Same H H' → Q (.bl (Vbenai.isRightTray r t)) H'
theorem right_eq (r : Vbenai.Room) (t : Nat) : Vbenai.isRightTray r t = (((Vbenai.trayAt r t).map fun n => decide ((Vbenai.homeOf r n : Int) = (t : Int))).all id && decide (((Vbenai.trayAt r t).map (Vbenai.keyOf r)).Pairwise (· ≤ ·))) := by
  unfold Vbenai.isRightTray
  simp only
  rw [adj_pair, List.all_map]
  refine congrArg (· && _) ?_
  refine congrArg (fun p => List.all (Vbenai.trayAt r t) p) (funext fun n => ?_)
  show (Vbenai.homeOf r n == t) = decide ((Vbenai.homeOf r n : Int) = (t : Int))
  rw [Bool.eq_iff_iff]
  simp only [beq_iff_eq, decide_eq_true_eq]
  omega
section
variable {P : Program} {w : World} {K : PySem.W.Frag} {mg : Str → Option Value} {base : Heap} {C : Addr}
theorem sc_is_right : FnScope ["room", "t", "row", "keys", "n"] ["room", "t"] (defScope (top 43)) := ⟨rfl, rfl, rfl, by decide +kernel, rfl, by decide +kernel, by decide +kernel⟩
theorem g_is_right (D : DefAt K mg "is_right" (top 43)) (T : Txt K mg C) (m_home_of : MtG P w K mg base C "home_of" 1 ["self", "n"] (spPart C 0)) (m_key_of : MtG P w K mg base C "key_of" 1 ["self", "n"] (spPart C 1)) : FnG P w K mg base "is_right" 2 ["room", "t"] (spRight C) := by
  refine D.fn sc_is_right (fun _ _ _ _ _ _ us hl => match us, hl with | [_, _], _ => rfl) (fun vs H Q E h => ?_) (fun f cdv Ar outer s H vs Q E hr h => ?_)
  · obtain ⟨_, _, _, _, _, rfl, _⟩ := h
    rfl
  · obtain ⟨a, A, r, log, t, rfl, R, I, ht, k⟩ := h
    refine ⟨_, pss_cons (ps_set (i := 2) sc_is_right.nd rfl (Or.inl rfl) (pe_ix ix_list (pe_fld (pv 0) rfl) (pv 1) (fun _ _ => rfl)))
      (pss_cons (ps_setLc (i := 3) (own := [("n", 4)]) (g := gName 4) (tt := tYes) (by rfl) sc_is_right.nd rfl rfl (sw_true rfl rfl rfl (by decide +kernel)) (pi_list (pv 2)) (blkOk_by (own := [("n", 4)]) (N := ["room", "t", "row", "keys", "n"]) (sc := defScope (top 43)) (by decide +kernel)) (fun _ _ _ _ _ => (pg_name (i := 4) sc_is_right.nd rfl (Or.inl rfl))) (fun _ _ _ _ _ => pts_nil) (fun _ _ _ _ _ => (pe_mt m_key_of T.cl hr (pv 0) (pa_cons (pv 4) pa_nil))))
      (pss_one (ps_ret (pe_and (pe_callB (cr_all rfl) (by rfl) T.all (by decide +kernel) (pa_cons (pe_lc (own := [("n", 4)]) (g := gName 4) (tt := tYes) (by rfl) sc_is_right.nd (pi_list (pv 2)) (blkOk_by (own := [("n", 4)]) (N := ["room", "t", "row", "keys", "n"]) (sc := defScope (top 43)) (by decide +kernel)) (fun _ _ _ _ _ => (pg_name (i := 4) sc_is_right.nd rfl (Or.inl rfl))) (fun _ _ _ _ _ => pts_nil) (fun _ _ _ _ _ => (pe_cmpR op_eq (pe_mt m_home_of T.cl hr (pv 0) (pa_cons (pv 4) pa_nil)) (pv 1) (nomark _)))) pa_nil)) (pe_one (pe_cmpR (op_eqD hr.units) (pv 3) (pe_callB cr_sorted (by rfl) T.sorted (by decide +kernel) (pa_cons (pv 3) pa_nil)) (nomark _))))))), ?_⟩
    obtain ⟨ta, hta, hTa⟩ := R.trayOf (i := t) ht
    have ll := I.trl ht
    have hac : ∀ n ∈ Vbenai.trayAt r t, n ∈ r.cards.map (·.number) := fun n hn => lies_card I (tray_lies ht hn)
    rw [right_eq] at k
    -- row = room.trays[t]
    refine e_asg ?_
    refine v_tray R T (val_var rfl) (val_var rfl) hta _ ?_
    -- keys
    refine e_asg ?_
    refine lc_mapN (K := K) (l := Vbenai.trayAt r t) (f := fun n => V.int (Vbenai.keyOf r n)) (val_var rfl) hTa (by omega) (fun v => rfl) (fun n hn H' s' => ?_) _ ?_
    · exact v_key (R.same s') I (hac n hn) (val_var rfl) (val_var rfl)
    intro p1 H1 hp1 s1 h1
    have ekeys : (Vbenai.trayAt r t).map (fun n => V.int (Vbenai.keyOf r n)) = ((Vbenai.trayAt r t).map (Vbenai.keyOf r)).map V.int := by rw [List.map_map]; rfl
    rw [ekeys] at h1
    refine e_ret (e_andV (e_cb1 ?_))
    refine lc_mapN (K := K) (l := Vbenai.trayAt r t) (f := fun n => V.bl (decide ((Vbenai.homeOf r n : Int) = (t : Int)))) (val_var rfl) (s1 _ _ hTa) (by omega) (fun v => rfl) (fun n hn H' s' => ?_) _ ?_
    · exact val_op (v_home ((R.same s1).same s') I (hac n hn) (val_var rfl) (val_var rfl)) (val_var rfl) fun Q q => r_eqI q
    intro p2 H2 hp2 s2 h2
    have ebs : (Vbenai.trayAt r t).map (fun n => V.bl (decide ((Vbenai.homeOf r n : Int) = (t : Int)))) = ((Vbenai.trayAt r t).map fun n => decide ((Vbenai.homeOf r n : Int) = (t : Int))).map V.bl := by rw [List.map_map]; rfl
    rw [ebs] at h2
    refine ⟨p2, _, rfl, SqL.of h2, _, rfl, ?_⟩
    have s12 := s1.trans s2
    cases hb : ((Vbenai.trayAt r t).map fun n => decide ((Vbenai.homeOf r n : Int) = (t : Int))).all id with
    | false =>
      rw [hb] at k
      exact iteF (k H2 s12)
    | true =>
      rw [hb, Bool.true_and] at k
      refine iteT ?_
      have h1' := s2 _ _ h1
      generalize (Vbenai.trayAt r t).map (Vbenai.keyOf r) = ks at h1' k ekeys
      have kl : ks.length ≤ 40 := by
        have := congrArg List.length ekeys
        rw [List.length_map, List.length_map] at this
        omega
      refine ⟨_, rfl, _, rfl, p1, ks, rfl, SqL.of h1', by omega, fun ns q perm ord hq => ?_⟩
      have s3 : Same H2 (upd H2 q (.lst (ns.map V.int))) := same_new hq
      refine ⟨.list (ks.map PyData.int), .list (ns.map PyData.int), .lst (SqL.of (s3 _ _ h1')) (dp_ints ks), .lst (SqL.of upd_same) (dp_ints ns), ints_shaped ks, ints_shaped ns, ?_⟩
      have e : PyData.eqv (.list (ks.map PyData.int)) (.list (ns.map PyData.int)) = decide (ks.Pairwise (· ≤ ·)) := (eqv_ints ks ns).trans (sorted_dec perm ord)
      rw [e]
      exact k _ (s12.trans s3)
def rightDue (r : Vbenai.Room) : List Int := match (List.range r.trays.length).find? fun t => !Vbenai.isRightTray r t with
  | none => [1]
  | some t => [0, (t : Int)]
def spTellRight (C : Addr) : Sp := fun vs H Q _ => ∃ (a : Addr) (A : Ad) (r : Vbenai.Room) (log : List Vbenai.Event), vs = [.ref a] ∧ RoomAt C H a A r log ∧ RInv r ∧ NewL H ((rightDue r).map V.int) Q
theorem sc_tell_right : FnScope ["room", "t"] ["room"] (defScope (top 44)) := ⟨rfl, rfl, rfl, by decide +kernel, rfl, by decide +kernel, by decide +kernel⟩
theorem g_tell_right (D : DefAt K mg "tell_right" (top 44)) (T : Txt K mg C) (g_is_right : FnG P w K mg base "is_right" 2 ["room", "t"] (spRight C)) : FnG P w K mg base "tell_right" 3 ["room"] (spTellRight C) := by
  refine D.fn sc_tell_right (fun _ _ _ _ _ _ us hl => match us, hl with | [_], _ => rfl) (fun vs H Q E h => ?_) (fun f cdv Ar outer s H vs Q E hr h => ?_)
  · obtain ⟨_, _, _, _, rfl, _⟩ := h
    rfl
  · obtain ⟨a, A, r, log, rfl, R, I, k⟩ := h
    refine ⟨_, pss_cons (ps_for PassesOwn.never rfl (pi_range1 rfl T.range (pa_cons (pe_callB call_len_seq (by rfl) T.len PySem.boot_len (pa_cons (pe_fld (pv 0) rfl) pa_nil)) pa_nil)) (pg_name (i := 1) sc_tell_right.nd rfl (Or.inl rfl)) (pss_one (ps_if (pt_not (pt_val (pe_fn g_is_right hr (pa_cons (pv 0) (pa_cons (pv 1) pa_nil))))) (pss_one (ps_ret (pe_lst (pa_cons pe_int (pa_cons (pv 1) pa_nil))))) pss_nil)))
      (pss_one (ps_ret (pe_lst (pa_cons pe_int pa_nil)))), ?_⟩
    have tl : A.ts.length = r.trays.length := by have := R.tt.1; rw [List.length_map] at this; exact this
    have htr := I.tr
    refine ⟨_, rfl, a, C, _, _, _, rfl, R.ob, T.cl, T.nTrays, f_trays A, A.td, _, rfl, .inl (SqL.of R.dt), (r.trays.length : Int), ?_, by omega, by omega, ?_⟩
    · rw [len_refs, tl]
    rw [Int.toNat_natCast]
    refine for_range (lo := 0) (n := r.trays.length) (fun i σ H' => ∃ v1 : Option V, σ = [some (.ref a), v1] ∧ Same H H' ∧ ∀ j, j < i → Vbenai.isRightTray r j = true) ⟨none, rfl, Same.refl H, fun j hj => by omega⟩ ?_ ?_
    · rintro i σ H1 hi ⟨v1, rfl, s1, hj⟩
      rw [Int.zero_add]
      refine ⟨_, rfl, _, rfl, a, A, r, log, i, rfl, R.same s1, I, hi, fun H2 s2 => ⟨_, rfl, ?_⟩⟩
      have s12 := s1.trans s2
      cases hb : Vbenai.isRightTray r i with
      | true =>
        refine iteF ⟨_, rfl, s12, fun j hj2 => ?_⟩
        by_cases e : j = i
        · rw [e]; exact hb
        · exact hj j (by omega)
      | false =>
        refine iteT (st_retLst (σ := [some (.ref a), some (.int (i : Int))]) (va_cons val_c (va_1 (val_var rfl))) (by show 2 ≤ 1000; decide) (NewL.back ?_ s12))
        have e : rightDue r = [0, (i : Int)] := by
          unfold rightDue
          rw [find_range_some hi (by rw [hb]; rfl) (fun j hj2 => by rw [hj j hj2]; rfl)]
        rw [e] at k
        exact k
    · rintro σ H1 ⟨v1, rfl, s1, hj⟩
      refine st_retLst (σ := [some (.ref a), v1]) (va_1 val_c) (by show 1 ≤ 1000; decide) (NewL.back ?_ s1)
      have e : rightDue r = [1] := by
        unfold rightDue
        rw [find_range_none (fun j hj2 => by rw [hj j hj2]; rfl)]
      rw [e] at k
      exact k
/-! ### place_at_home -/
def spPlace (C : Addr) : Sp := fun vs H Q _ => ∃ (a b c : Addr) (A : Ad) (r : Vbenai.Room) (log : List Vbenai.Event) (l st : List Nat) (n : Nat), vs = [.ref a, .ref b, .ref c, .int (n : Int)] ∧ RoomAt C H a A r log ∧ RInv r ∧ H b = some (.lst (nv l)) ∧ H c = some (.lst (nv st)) ∧ (∀ x ∈ l, x ∈ r.cards.map (·.number)) ∧ n ∈ r.cards.map (·.number) ∧
  ∀ H', Same H H' → Q (.int ((Vbenai.placeFor r st l n : Nat) : Int)) H'
theorem sc_place_at_home : FnScope ["room", "row", "settled", "n", "place", "at", "other"] ["room", "row", "settled", "n"] (defScope (top 52)) := ⟨rfl, rfl, rfl, by decide +kernel, rfl, by decide +kernel, by decide +kernel⟩
theorem g_place_at_home (D : DefAt K mg "place_at_home" (top 52)) (T : Txt K mg C) (m_key_of : MtG P w K mg base C "key_of" 1 ["self", "n"] (spPart C 1)) : FnG P w K mg base "place_at_home" 2 ["room", "row", "settled", "n"] (spPlace C) := by
  refine D.fn sc_place_at_home (fun _ _ _ _ _ _ us hl => match us, hl with | [_, _, _, _], _ => rfl) (fun vs H Q E h => ?_) (fun f cdv Ar outer s H vs Q E hr h => ?_)
  · obtain ⟨_, _, _, _, _, _, _, _, _, rfl, _⟩ := h
    rfl
  · obtain ⟨a, b, c, A, r, log, l, st, n, rfl, R, I, hb, hc, hm, hn, k⟩ := h
    refine ⟨_, pss_cons (ps_set (i := 4) sc_place_at_home.nd rfl (Or.inl rfl) pe_int)
      (pss_cons (ps_for PassesOwn.never rfl (pi_enum (by rfl) T.enum (pa_cons (pv 1) pa_nil)) (pg_tup rfl (pgs_cons (pg_name (i := 5) sc_place_at_home.nd rfl (Or.inl rfl)) (pgs_cons (pg_name (i := 6) sc_place_at_home.nd rfl (Or.inl rfl)) pgs_nil))) (pss_one (ps_if (PW.pt (pw_and (pt_cmpR op_in_seq (pv 6) (pv 2) (by rfl)) (pw_and1 (pt_cmpR op_le (pe_mt m_key_of T.cl hr (pv 0) (pa_cons (pv 6) pa_nil)) (pe_mt m_key_of T.cl hr (pv 0) (pa_cons (pv 3) pa_nil)) (nomark _))))) (pss_one (ps_set (i := 4) sc_place_at_home.nd rfl (Or.inl rfl) (pe_op op_add (pv 5) pe_int))) pss_nil)))
      (pss_one (ps_ret (pv 4)))), ?_⟩
    rw [placeFor_eq] at k
    refine ⟨_, rfl, b, _, rfl, SqL.of hb, ?_⟩
    refine for_it (walk_enum (K := K) (a := b) (xs := nv l)) (fun i σ H' => ∃ (v5 v6 : Option V), σ = [some (.ref a), some (.ref b), some (.ref c), some (.int (n : Int)), some (.int ((placeIn (fun x => st.contains x && decide (Vbenai.keyOf r x ≤ Vbenai.keyOf r n)) (l.take i) : Nat) : Int)), v5, v6] ∧ Same H H')
      ⟨none, none, rfl, Same.refl H⟩ (fun i σ H' _ ⟨_, _, _, s1⟩ => SqL.of (s1 _ _ hb)) ?_ ?_
    · rintro i x σ H1 H2 hi ⟨v5, v6, rfl, s1⟩ ⟨Tp, y, z, rfl, hT, rfl, hy, hz⟩
      cases hy
      obtain ⟨m, hmi, rfl⟩ := nv_get_inv hz
      rw [nv_len] at hi
      have s2 : Same H1 (upd H1 Tp (.tup [.int (i : Int), .int (m : Int)])) := same_new hT
      refine ⟨Tp, _, rfl, SqT.of upd_same, rfl, ?_⟩
      generalize upd H1 Tp (.tup [.int (i : Int), .int (m : Int)]) = H2 at s2
      refine g_pair ?_
      have s12 := s1.trans s2
      have R2 := R.same s12
      have hmc := hm m (List.mem_of_getElem? hmi)
      have test := ans_and2 (σ := [some (.ref a), some (.ref b), some (.ref c), some (.int (n : Int)), some (.int ((placeIn (fun x => st.contains x && decide (Vbenai.keyOf r x ≤ Vbenai.keyOf r n)) (l.take i) : Nat) : Int)), some (.int (i : Int)), some (.int (m : Int))]) (H := H2)
        (a_in (K := K) (neg := false) (n := m) (tr := tVar 6) (tx := tVar 2) (val_var rfl) (val_var rfl) (s12 _ _ hc)) (a_le (v_key (tr := tVar 0) (tx := tVar 6) R2 I hmc (val_var rfl) (val_var rfl)) (v_key (tr := tVar 0) (tx := tVar 3) R2 I hn (val_var rfl) (val_var rfl)))
      have ft : placeIn (fun x => st.contains x && decide (Vbenai.keyOf r x ≤ Vbenai.keyOf r n)) (l.take (i + 1)) = if (st.contains m && decide (Vbenai.keyOf r m ≤ Vbenai.keyOf r n)) = true then i + 1 else placeIn (fun x => st.contains x && decide (Vbenai.keyOf r x ≤ Vbenai.keyOf r n)) (l.take i) := by
        rw [List.take_add_one, hmi]
        show placeIn _ (l.take i ++ [m]) = _
        rw [place_snoc, List.length_take, Nat.min_eq_left (by omega)]
      cases hbb : (st.contains m && decide (Vbenai.keyOf r m ≤ Vbenai.keyOf r n)) with
      | false =>
        rw [hbb, if_neg (by decide)] at ft
        refine st_no (test.to hbb) ⟨some (.int (i : Int)), some (.int (m : Int)), ?_, s12⟩
        rw [ft]
        rfl
      | true =>
        rw [hbb, if_pos rfl] at ft
        refine st_yes (test.to hbb) ?_
        refine e_asg1 ?_
        refine val_I (i := (i : Int)) (j := 1) (val_var rfl) val_c _ ?_
        refine ⟨some (.int (i : Int)), some (.int (m : Int)), ?_, s12⟩
        rw [ft]
        rfl
    · rintro σ H1 ⟨v5, v6, rfl, s1⟩
      rw [nv_len, List.take_length]
      exact ⟨_, rfl, k H1 s1⟩
end
end Cc

set_option Elab.async false
set_option linter.all false
set_option maxRecDepth 100000
set_option maxHeartbeats 4000000
namespace Cc
open PySem PySem.Spec PyProof.Rows L2
open VbenCore (isBetween)

/-! ### one move of the plan -/
theorem getD_set {L : List (List Nat)} {t u : Nat} {x : List Nat} (h : t < L.length) : (L.set t x).getD u [] = if u = t then x else L.getD u [] := by
  rw [List.getD_eq_getElem?_getD, List.getD_eq_getElem?_getD]
  by_cases e : u = t
  · subst e
    rw [if_pos rfl, List.getElem?_set_self h]
    rfl
  · rw [if_neg e, List.getElem?_set_ne (fun q => e q.symm)]
theorem plan_step {r : Vbenai.Room} {L : List (List Nat)} {S rest : List Nat} {n t : Nat} (hs : spotF L n = some t) :
    Vbenai.planFrom { r with trays := L } S (n :: rest) =
      ⟨t, (L.getD t []).idxOf n, Vbenai.homeOf r n, Vbenai.placeFor r S ((L.set t ((L.getD t []).eraseIdx ((L.getD t []).idxOf n))).getD (Vbenai.homeOf r n) []) n⟩ ::
      Vbenai.planFrom { r with trays := (L.set t ((L.getD t []).eraseIdx ((L.getD t []).idxOf n))).set (Vbenai.homeOf r n) (Vbenai.putAt ((L.set t ((L.getD t []).eraseIdx ((L.getD t []).idxOf n))).getD (Vbenai.homeOf r n) []) (Vbenai.placeFor r S ((L.set t ((L.getD t []).eraseIdx ((L.getD t []).idxOf n))).getD (Vbenai.homeOf r n) []) n) n) } (S ++ [n]) rest := by
  obtain ⟨ht, hc⟩ := spotF_lt hs
  have hn : n ∈ L.getD t [] := by simpa using hc
  have hg : (L.getD t [])[(L.getD t []).idxOf n]? = some n := (first_at hn).1
  have e1 : (List.range ({ r with trays := L } : Vbenai.Room).trays.length).find? (fun t => (Vbenai.trayAt { r with trays := L } t).contains n) = some t := hs
  have e2 : (if Vbenai.homeOf { r with trays := L } n = t then (Vbenai.trayAt { r with trays := L } t).eraseIdx ((Vbenai.trayAt { r with trays := L } t).idxOf n) else Vbenai.trayAt { r with trays := L } (Vbenai.homeOf { r with trays := L } n)) = (L.set t ((L.getD t []).eraseIdx ((L.getD t []).idxOf n))).getD (Vbenai.homeOf r n) [] := (getD_set ht).symm
  simp only [Vbenai.planFrom]
  rw [e1]
  simp only
  rw [e2]
  have e3 : (Vbenai.trayAt { r with trays := L } t).getD ((Vbenai.trayAt { r with trays := L } t).idxOf n) 0 = n := by
    rw [List.getD_eq_getElem?_getD]
    show ((L.getD t [])[(L.getD t []).idxOf n]?).getD 0 = n
    rw [hg]
    rfl
  unfold Vbenai.moved
  simp only
  rw [e3]
  refine congrArg _ ?_
  refine planFrom_congr rest fun x => ?_
  rw [List.contains_cons, List.contains_eq_any_beq, List.contains_eq_any_beq, List.any_append, Bool.or_comm]
  simp
theorem plan_count {L : List (List Nat)} {n t u q : Nat} (hs : spotF L n = some t) (hu : u < L.length) (x : Nat) :
    ((L.set t ((L.getD t []).eraseIdx ((L.getD t []).idxOf n))).set u (Vbenai.putAt ((L.set t ((L.getD t []).eraseIdx ((L.getD t []).idxOf n))).getD u []) q n)).flatten.count x = L.flatten.count x := by
  obtain ⟨ht, hc⟩ := spotF_lt hs
  have hg : (L.getD t [])[(L.getD t []).idxOf n]? = some n := (first_at (by simpa using hc)).1
  have c1 := count_set L t ((L.getD t []).eraseIdx ((L.getD t []).idxOf n)) x ht
  have c2 := count_eraseIdx _ _ _ x hg
  have c3 := count_set (L.set t ((L.getD t []).eraseIdx ((L.getD t []).idxOf n))) u (Vbenai.putAt ((L.set t ((L.getD t []).eraseIdx ((L.getD t []).idxOf n))).getD u []) q n) x (by rw [List.length_set]; exact hu)
  rw [count_putAt] at c3
  omega
/-! ### what the plan works on -/
structure PL (H H' : Hp) (D ma sa va : Addr) (ps ms : List Addr) (todo : List Nat) (L : List (List Nat)) (S : List Nat) (M : List (List Nat)) : Prop where
  sm : Same H H'
  hD : H' D = some (.lst (ps.map V.ref))
  hP : Rows H' ps (L.map nv)
  ht : H' ma = some (.lst (nv todo))
  hS : H' sa = some (.lst (nv S))
  hV : H' va = some (.lst (ms.map V.ref))
  hM : Rows H' ms (M.map nv)
  nd : (va :: sa :: ma :: D :: ps).Nodup
  fr : ∀ x ∈ va :: sa :: ma :: D :: ps, H x = none
  dj : ∀ x ∈ ms, x ∉ va :: sa :: ma :: D :: ps
section
variable {H H' : Hp} {D ma sa va : Addr} {ps ms : List Addr} {todo : List Nat} {L : List (List Nat)} {S : List Nat} {M : List (List Nat)}
theorem PL.same {H2 : Hp} (p : PL H H' D ma sa va ps ms todo L S M) (k : Same H' H2) : PL H H2 D ma sa va ps ms todo L S M :=
  ⟨p.sm.trans k, k _ _ p.hD, p.hP.same k, k _ _ p.ht, k _ _ p.hS, k _ _ p.hV, p.hM.same k, p.nd, p.fr, p.dj⟩
theorem PL.ne (p : PL H H' D ma sa va ps ms todo L S M) {i j : Nat} {x y : Addr} (h1 : (va :: sa :: ma :: D :: ps)[i]? = some x) (h2 : (va :: sa :: ma :: D :: ps)[j]? = some y) (h : i ≠ j) : x ≠ y := ne_at p.nd h1 h2 h
theorem PL.smU (p : PL H H' D ma sa va ps ms todo L S M) {i : Nat} {x : Addr} (h1 : (va :: sa :: ma :: D :: ps)[i]? = some x) (o : HO) : Same H (upd H' x o) := fun b u z => by
  rw [upd_ne (ne_of_none z (p.fr x (List.mem_of_getElem? h1)))]
  exact p.sm _ _ z
theorem PL.msU (p : PL H H' D ma sa va ps ms todo L S M) {i : Nat} {x : Addr} (h1 : (va :: sa :: ma :: D :: ps)[i]? = some x) (o : HO) : Rows (upd H' x o) ms (M.map nv) := p.hM.off fun t ht e => p.dj t ht (by rw [e]; exact List.mem_of_getElem? h1)
theorem PL.ndP (p : PL H H' D ma sa va ps ms todo L S M) : ps.Nodup := (List.nodup_cons.mp (List.nodup_cons.mp (List.nodup_cons.mp (List.nodup_cons.mp p.nd).2).2).2).2
theorem PL.psU (p : PL H H' D ma sa va ps ms todo L S M) {i : Nat} {x : Addr} (h1 : (va :: sa :: ma :: D :: ps)[i]? = some x) (hi : i < 4) (o : HO) : Rows (upd H' x o) ps (L.map nv) := p.hP.off fun t ht => by
  obtain ⟨j, hj⟩ := List.getElem?_of_mem ht
  exact p.ne (i := j + 4) hj h1 (by omega)
/-- a tray is written anew -/
theorem PL.row (p : PL H H' D ma sa va ps ms todo L S M) {i : Nat} {t : Addr} (ht : ps[i]? = some t) (l : List Nat) : PL H (upd H' t (.lst (nv l))) D ma sa va ps ms todo (L.set i l) S M := by
  have ht' : (va :: sa :: ma :: D :: ps)[i + 4]? = some t := ht
  refine ⟨p.smU ht' _, by rw [upd_ne (p.ne (i := 3) rfl ht' (by omega))]; exact p.hD, ?_, by rw [upd_ne (p.ne (i := 2) rfl ht' (by omega))]; exact p.ht, by rw [upd_ne (p.ne (i := 1) rfl ht' (by omega))]; exact p.hS, by rw [upd_ne (p.ne (i := 0) rfl ht' (by omega))]; exact p.hV, p.msU ht' _, p.nd, p.fr, p.dj⟩
  rw [map_set_nv]
  exact p.hP.upd p.ndP ht (nv l)
theorem PL.settle (p : PL H H' D ma sa va ps ms todo L S M) (n : Nat) : PL H (upd H' sa (.lst (nv (S ++ [n])))) D ma sa va ps ms todo L (S ++ [n]) M := by
  have h1 : (va :: sa :: ma :: D :: ps)[1]? = some sa := rfl
  exact ⟨p.smU h1 _, by rw [upd_ne (p.ne (i := 3) rfl h1 (by decide))]; exact p.hD, p.psU h1 (by decide) _, by rw [upd_ne (p.ne (i := 2) rfl h1 (by decide))]; exact p.ht, upd_same, by rw [upd_ne (p.ne (i := 0) rfl h1 (by decide))]; exact p.hV, p.msU h1 _, p.nd, p.fr, p.dj⟩
theorem Rows.snoc {H : Hp} {as : List Addr} {L : List (List Nat)} (R : Rows H as (L.map nv)) {x : Addr} {l : List Nat} (hx : H x = some (.lst (nv l))) : Rows H (as ++ [x]) ((L ++ [l]).map nv) := by
  have al : as.length = L.length := by have := R.1; rw [List.length_map] at this; exact this
  refine ⟨by simp [al], fun i u z h1 h2 => ?_⟩
  rw [List.map_append] at h2
  by_cases hi : i < L.length
  · rw [List.getElem?_append_left (by omega)] at h1
    rw [List.getElem?_append_left (by rw [List.length_map]; exact hi)] at h2
    exact R.2 i u z h1 h2
  · have hl : i = L.length := by
      have := (List.getElem?_eq_some_iff.mp h1).1
      simp at this
      omega
    subst hl
    rw [← al, List.getElem?_append_right (Nat.le_refl _), Nat.sub_self] at h1
    rw [List.getElem?_append_right (by rw [List.length_map]; exact Nat.le_refl _), List.length_map, Nat.sub_self] at h2
    cases h1
    cases h2
    exact hx
theorem PL.move (p : PL H H' D ma sa va ps ms todo L S M) {x : Addr} {l : List Nat} (hx : H' x = some (.lst (nv l))) (nx : x ∉ va :: sa :: ma :: D :: ps) : PL H (upd H' va (.lst ((ms ++ [x]).map V.ref))) D ma sa va ps (ms ++ [x]) todo L S (M ++ [l]) := by
  have h1 : (va :: sa :: ma :: D :: ps)[0]? = some va := rfl
  refine ⟨p.smU h1 _, by rw [upd_ne (p.ne (i := 3) rfl h1 (by decide))]; exact p.hD, p.psU h1 (by decide) _, by rw [upd_ne (p.ne (i := 2) rfl h1 (by decide))]; exact p.ht, by rw [upd_ne (p.ne (i := 1) rfl h1 (by decide))]; exact p.hS, upd_same, (p.msU h1 _).snoc ?_, p.nd, p.fr, fun y hy => ?_⟩
  · rw [upd_ne (fun e => nx (by rw [e]; exact List.mem_cons_self))]
    exact hx
  · rcases List.mem_append.mp hy with m | m
    · exact p.dj y m
    · rw [List.mem_singleton.mp m]; exact nx
theorem PL.alive (p : PL H H' D ma sa va ps ms todo L S M) {x : Addr} (hx : x ∈ va :: sa :: ma :: D :: ps) : H' x ≠ none := by
  simp only [List.mem_cons] at hx
  rcases hx with rfl | rfl | rfl | rfl | h
  · rw [p.hV]; simp
  · rw [p.hS]; simp
  · rw [p.ht]; simp
  · rw [p.hD]; simp
  · exact p.hP.alive h
end
def moveRow (m : Vbenai.Move) : List Nat := [m.t, m.p, m.u, m.q]
theorem moves_flat (l : List Vbenai.Move) : ((l.map moveRow).map nv).flatten = (l.flatMap fun m => VbenCore.ints [m.t, m.p, m.u, m.q]).map V.int := by
  induction l with
  | nil => rfl
  | cons m l ih =>
    rw [List.map_cons, List.map_cons, List.flatten_cons, ih, List.flatMap_cons, List.map_append]
    rfl
theorem moves_flat_len (l : List Vbenai.Move) : (l.flatMap fun m => VbenCore.ints [m.t, m.p, m.u, m.q]).length = 4 * l.length := by
  induction l with
  | nil => rfl
  | cons x l ih =>
    rw [List.flatMap_cons, List.length_append, ih, List.length_cons]
    show 4 + _ = _
    omega
section
variable {σ : L2.St} {H : Hp} {D : Ends} {t : TA} {vs : List V} {sp : Sp} {E : XK} {Q : VK}
theorem e_call (h : ValA t σ H vs) (k : sp (vs ++ []) H Q E) : tCall sp [] E t σ H Q := h _ k
end
def spPlan (C : Addr) : Sp := fun vs H Q _ => ∃ (a : Addr) (A : Ad) (r : Vbenai.Room) (log : List Vbenai.Event), vs = [.ref a] ∧ RoomAt C H a A r log ∧ RInv r ∧
  NewL H ((((Vbenai.plan r).length : Int) :: (Vbenai.plan r).flatMap fun m => VbenCore.ints [m.t, m.p, m.u, m.q]).map V.int) Q
section
variable {P : Program} {w : World} {K : PySem.W.Frag} {mg : Str → Option Value} {base : Heap} {C : Addr}
theorem sc_tell_plan : FnScope ["room", "trays", "settled", "to_move", "moves", "n", "spot", "home", "place", "row"] ["room"] (defScope (top 53)) := ⟨rfl, rfl, rfl, by decide +kernel, rfl, by decide +kernel, by decide +kernel⟩
theorem g_tell_plan (D : DefAt K mg "tell_plan" (top 53)) (T : Txt K mg C) (g_all_staying : FnG P w K mg base "all_staying" 4 ["room"] (spAllStay C)) (g_cards_to_move : FnG P w K mg base "cards_to_move" 5 ["room"] (spToMove C)) (g_spot_in : FnG P w K mg base "spot_in" 1 ["rows", "n"] spSpot)
    (m_home_of : MtG P w K mg base C "home_of" 1 ["self", "n"] (spPart C 0)) (g_place_at_home : FnG P w K mg base "place_at_home" 2 ["room", "row", "settled", "n"] (spPlace C)) (g_counted_rows : FnG P w K mg base "counted_rows" 1 ["rows"] spRows) : FnG P w K mg base "tell_plan" 6 ["room"] (spPlan C) := by
  refine D.fn sc_tell_plan (fun _ _ _ _ _ _ us hl => match us, hl with | [_], _ => rfl) (fun vs H Q E h => ?_) (fun f cdv Ar outer s H vs Q E hr h => ?_)
  · obtain ⟨_, _, _, _, rfl, _⟩ := h
    rfl
  · obtain ⟨a, A, r, log, rfl, R, I, k⟩ := h
    have hr1 := hr.mono (show 1 ≤ 5 by decide)
    have hr2 := hr.mono (show 2 ≤ 5 by decide)
    have hr4 := hr.mono (show 4 ≤ 5 by decide)
    refine ⟨_, pss_cons (ps_setLc (i := 1) (own := [("row", 9)]) (g := gName 9) (tt := tYes) (by rfl) sc_tell_plan.nd rfl rfl (sw_true rfl rfl rfl (by decide +kernel)) (pi_list (pe_fld (pv 0) rfl)) (blkOk_by (own := [("row", 9)]) (N := ["room", "trays", "settled", "to_move", "moves", "n", "spot", "home", "place", "row"]) (sc := defScope (top 53)) (by decide +kernel)) (fun _ _ _ _ _ => (pg_name (i := 9) sc_tell_plan.nd rfl (Or.inl rfl))) (fun _ _ _ _ _ => pts_nil) (fun _ _ _ _ _ => (pe_callTy (call_list_ofK (K := K)) (by rfl) T.list (by decide +kernel) (pa_cons (pv 9) pa_nil))))
      (pss_cons (ps_set (i := 2) sc_tell_plan.nd rfl (Or.inl rfl) (pe_fn g_all_staying hr4 (pa_cons (pv 0) pa_nil)))
      (pss_cons (ps_set (i := 3) sc_tell_plan.nd rfl (Or.inl rfl) (pe_fn g_cards_to_move hr (pa_cons (pv 0) pa_nil)))
      (pss_cons (ps_set (i := 4) sc_tell_plan.nd rfl (Or.inl rfl) (pe_lst pa_nil))
      (pss_cons (ps_for PassesOwn.never rfl (pi_list (pv 3)) (pg_name (i := 5) sc_tell_plan.nd rfl (Or.inl rfl)) (pss_cons (ps_set (i := 6) sc_tell_plan.nd rfl (Or.inl rfl) (pe_fn g_spot_in hr1 (pa_cons (pv 1) (pa_cons (pv 5) pa_nil))))
      (pss_cons (ps_expr (pe_bm PySem.F.plainAttrs_list PySem.F.slot_list_pop PySem.F.type_list_pop mt_popAt (pe_ix ix_list (pv 1) (pe_ix ix_list (pv 6) pe_int (fun _ _ => rfl)) (fun _ _ => rfl)) (pa_cons (pe_ix ix_list (pv 6) pe_int (fun _ _ => rfl)) pa_nil)))
      (pss_cons (ps_set (i := 7) sc_tell_plan.nd rfl (Or.inl rfl) (pe_mt m_home_of T.cl hr1 (pv 0) (pa_cons (pv 5) pa_nil)))
      (pss_cons (ps_set (i := 8) sc_tell_plan.nd rfl (Or.inl rfl) (pe_fn g_place_at_home hr2 (pa_cons (pv 0) (pa_cons (pe_ix ix_list (pv 1) (pv 7) (fun _ _ => rfl)) (pa_cons (pv 2) (pa_cons (pv 5) pa_nil))))))
      (pss_cons (ps_expr (pe_bm PySem.F.plainAttrs_list PySem.F.slot_list_insert PySem.F.type_list_insert mt_insert (pe_ix ix_list (pv 1) (pv 7) (fun _ _ => rfl)) (pa_cons (pv 8) (pa_cons (pv 5) pa_nil))))
      (pss_cons (ps_expr (pe_bm PySem.F.plainAttrs_list PySem.F.slot_list_append PySem.F.type_list_append mt_append (pv 2) (pa_cons (pv 5) pa_nil)))
      (pss_one (ps_expr (pe_bm PySem.F.plainAttrs_list PySem.F.slot_list_append PySem.F.type_list_append mt_append (pv 4) (pa_cons (pe_op op_cat (pv 6) (pe_lst (pa_cons (pv 7) (pa_cons (pv 8) pa_nil)))) pa_nil)))))))))))
      (pss_one (ps_ret (pe_fn g_counted_rows hr1 (pa_cons (pv 4) pa_nil)))))))), ?_⟩
    have tl : A.ts.length = r.trays.length := by have := R.tt.1; rw [List.length_map] at this; exact this
    have htr := I.tr
    -- trays = [list(row) for row in room.trays]
    refine e_asg ?_
    refine ⟨_, rfl, a, C, _, _, _, rfl, R.ob, T.cl, T.nTrays, f_trays A, A.td, rfl, ⟨_, SqL.of R.dt⟩, fun Dl hDl => ?_⟩
    have nofil : ∀ l ∈ r.trays, (l.filter fun x => x != 1000) = l := fun l hl => List.filter_eq_self.mpr fun x hx => by
      have hc : x ∈ r.cards.map (·.number) := lies_card I (List.mem_flatten.mpr ⟨l, hl, hx⟩)
      obtain ⟨c, hcc, rfl⟩ := List.mem_map.mp hc
      have := (I.ok c hcc).1
      simp only [bne_iff_ne, ne_eq]
      omega
    refine lc_list (K := K) (a := A.td) (xs := A.ts.map V.ref) (Wos H Dl r.trays 1000) (wos0 hDl) (fun i H' _ W => by
      obtain ⟨_, _, _, _, _, _, h3⟩ := W
      exact SqL.of (h3 _ _ R.dt)) ?_ ?_
    · rintro i x H1 hi W
      obtain ⟨t, ht, rfl⟩ := refs_inv hi
      have hlt : i < r.trays.length := by rw [← tl]; exact (List.getElem?_eq_some_iff.mp ht).1
      obtain ⟨l, hli⟩ : ∃ l, r.trays[i]? = some l := ⟨_, List.getElem?_eq_getElem hlt⟩
      have hrow := R.tt.2 i t (nv l) ht (by rw [List.getElem?_map, hli]; rfl)
      have s1 : Same H H1 := by
        obtain ⟨_, _, _, _, _, _, h3⟩ := W
        exact h3
      refine ⟨rfl, iteT (B := Wos H Dl r.trays 1000 (i + 1) H1) ⟨_, rfl, t, _, rfl, .inl (SqL.of (s1 _ _ hrow)), fun p hp => ?_⟩⟩
      refine wos_turn W hli hp (same_new hp) ?_ (by omega)
      rw [upd_same, nofil l (List.mem_of_getElem? hli)]
    intro H1 W
    rw [len_refs, tl] at W
    obtain ⟨ps, nd1, fr1, hD1, s1, hP1⟩ := W.rows
    have enf : (r.trays.map fun l => l.filter fun x => x != 1000) = r.trays := by
      conv => rhs; rw [← List.map_id r.trays]
      exact List.map_congr_left nofil
    rw [enf] at hP1
    -- settled = all_staying(room)
    refine ⟨_, rfl, a, A, r, log, rfl, R.same s1, I, fun sa H2 hsa s2 h2 => ?_⟩
    -- to_move = cards_to_move(room)
    refine ⟨_, rfl, a, A, r, log, rfl, (R.same s1).same s2, I, fun ma H3 hma s3 h3 => ?_⟩
    -- moves = []
    refine ⟨Nat.zero_le _, fun va hva => ?_⟩
    have s4 : Same H3 (upd H3 va (.lst [])) := same_new hva
    have h4 : upd H3 va (.lst []) va = some (.lst []) := upd_same
    generalize upd H3 va (.lst []) = H4 at s4 h4
    have P0 : PL H H4 Dl ma sa va ps [] (toMove r) r.trays (Vbenai.allStaying r) [] := by
      have a1 : ∀ x ∈ Dl :: ps, H1 x ≠ none := fun x hx => by
        rcases List.mem_cons.mp hx with e | m
        · rw [e, hD1]; simp
        · exact hP1.alive m
      refine ⟨((s1.trans s2).trans s3).trans s4, s4 _ _ (s3 _ _ (s2 _ _ hD1)), ((hP1.same s2).same s3).same s4, s4 _ _ h3, s4 _ _ (s3 _ _ h2), h4, ⟨rfl, fun i t l h => by simp at h⟩, ?_, fun x hx => ?_, fun x hx => by simp at hx⟩
      · refine List.nodup_cons.mpr ⟨fun m => ?_, List.nodup_cons.mpr ⟨fun m => ?_, List.nodup_cons.mpr ⟨fun m => ?_, nd1⟩⟩⟩
        · rcases List.mem_cons.mp m with e | m
          · have := s3 _ _ h2; rw [← e, hva] at this; cases this
          · rcases List.mem_cons.mp m with e | m
            · have := h3; rw [← e, hva] at this; cases this
            · exact Same.dm s3 _ (Same.dm s2 _ (a1 va m)) hva
        · rcases List.mem_cons.mp m with e | m
          · have := h2; rw [e, hma] at this; cases this
          · exact a1 sa m hsa
        · exact Same.dm s2 _ (a1 ma m) hma
      · rcases List.mem_cons.mp hx with e | m
        · rw [e]; exact Same.free ((s1.trans s2).trans s3) hva
        · rcases List.mem_cons.mp m with e | m
          · rw [e]; exact Same.free s1 hsa
          · rcases List.mem_cons.mp m with e | m
            · rw [e]; exact Same.free (s1.trans s2) hma
            · exact fr1 x m
    have hplan : ([] : List Vbenai.Move) ++ Vbenai.planFrom { r with trays := r.trays } (Vbenai.allStaying r) ((toMove r).drop 0) = Vbenai.plan r := rfl
    have htm : ∀ n ∈ toMove r, n ∈ Vbenai.lying r := fun n hn => (List.mem_filter.mp hn).1
    have tml := to_move_len I
    have asl := all_stay_len I
    -- for n in to_move
    refine ⟨_, rfl, ma, rfl, ⟨_, SqL.of P0.ht⟩, ?_⟩
    refine for_list (K := K) (a := ma) (xs := nv (toMove r)) (fun i σ H' => ∃ (v5 v6 v7 v8 v9 : Option V) (ms : List Addr) (L : List (List Nat)) (S : List Nat) (done : List Vbenai.Move), σ = [some (.ref a), some (.ref Dl), some (.ref sa), some (.ref ma), some (.ref va), v5, v6, v7, v8, v9] ∧
        PL H H' Dl ma sa va ps ms (toMove r) L S (done.map moveRow) ∧ L.length = r.trays.length ∧ (∀ x, L.flatten.count x = r.trays.flatten.count x) ∧ S.length ≤ 40 + i ∧ done.length = i ∧ done ++ Vbenai.planFrom { r with trays := L } S ((toMove r).drop i) = Vbenai.plan r)
      ⟨none, none, none, none, none, [], r.trays, Vbenai.allStaying r, [], rfl, P0, rfl, fun _ => rfl, by omega, rfl, hplan⟩ (fun i σ H' _ ⟨_, _, _, _, _, _, _, _, _, _, p, _⟩ => SqL.of p.ht) ?_ ?_
    · rintro i x σ H5 hi ⟨v5, v6, v7, v8, v9, ms, L, S, done, rfl, p5, hL, hcnt, hSl, hdl, hpl⟩
      obtain ⟨n, hn, rfl⟩ := nv_get_inv hi
      have hil : i < (toMove r).length := (List.getElem?_eq_some_iff.mp hn).1
      have hnl := htm n (List.mem_of_getElem? hn)
      have hnc := lies_card I hnl
      have hnL : n ∈ L.flatten := mem_of_count (by rw [hcnt]; exact count_of_mem hnl)
      obtain ⟨t, hst⟩ := spotF_in hnL
      obtain ⟨htl, htc⟩ := spotF_lt hst
      have hin : n ∈ L.getD t [] := by simpa using htc
      have hgn := (first_at hin).1
      have hLc : ∀ x ∈ L.flatten, x ∈ r.cards.map (·.number) := fun x hx => lies_card I (mem_of_count (by unfold Vbenai.lying; rw [← hcnt]; exact count_of_mem hx))
      have hfl : L.flatten.length ≤ 40 := by
        have e := (List.perm_iff_count.mpr hcnt).length_eq
        rw [e]
        exact I.lyl
      have hrowl : ∀ j, j < L.length → (L.getD j []).length ≤ 40 := fun j hj => Nat.le_trans (flen_le (getD_mem hj)) hfl
      have hul : Vbenai.homeOf r n < L.length := by rw [hL]; exact home_lt I hnc
      have esp : spot L n = [t, (L.getD t []).idxOf n] := by unfold spot; rw [hst]
      have hdrop : (toMove r).drop i = n :: (toMove r).drop (i + 1) := by
        obtain ⟨h1, h2⟩ := List.getElem?_eq_some_iff.mp hn
        rw [List.drop_eq_getElem_cons h1, h2]
      rw [hdrop, plan_step hst] at hpl
      have hcnt' := plan_count (q := Vbenai.placeFor r S ((L.set t ((L.getD t []).eraseIdx ((L.getD t []).idxOf n))).getD (Vbenai.homeOf r n) []) n) hst hul
      have hpc : (L.getD t []).idxOf n < (L.getD t []).length := (List.getElem?_eq_some_iff.mp hgn).1
      have hrt := hrowl t htl
      -- spot = spot_in(trays, n)
      refine e_asg ?_
      refine ⟨_, rfl, _, rfl, Dl, ps, L, n, rfl, p5.hD, p5.hP, fun x1 H6 hx1 s6 h6 => ?_⟩
      rw [esp] at h6
      have p6 := p5.same s6
      generalize (L.getD t []).idxOf n = pc at *
      have n1 : x1 ∉ va :: sa :: ma :: Dl :: ps := fun m => p5.alive m hx1
      have psl : ps.length = L.length := by have := p6.hP.1; rw [List.length_map] at this; exact this
      obtain ⟨tp, htp⟩ : ∃ tp, ps[t]? = some tp := ⟨_, List.getElem?_eq_getElem (by rw [psl]; exact htl)⟩
      have hLt : L[t]? = some (L.getD t []) := by rw [List.getD_eq_getElem?_getD, List.getElem?_eq_getElem htl]; rfl
      have hrow := p6.hP.2 t tp _ htp (by rw [List.getElem?_map, hLt]; rfl)
      -- trays[spot[0]].pop(spot[1])
      refine e_drop ?_
      refine val_ixL (K := K) (j := t) (val_var rfl) (v_at (K := K) 0 (val_var rfl) h6 rfl) (SqL.of p6.hD) rfl (v_ref_get htp) _ ?_
      refine ⟨.inl ⟨rfl, _, SqL.of hrow⟩, ?_⟩
      refine v_at (K := K) 1 (val_var rfl) h6 rfl _ ?_
      refine ⟨tp, _, (pc : Int), pc, .int (n : Int), rfl, rfl, hrow, by omega, by omega, (ixN_seq (ixN_nat (by rw [nv_len]; exact hpc))).1, nv_get hgn, ?_⟩
      rw [nv_erase]
      have p7 := p6.row htp ((L.getD t []).eraseIdx pc)
      have h7 : upd H6 tp (.lst (nv ((L.getD t []).eraseIdx pc))) x1 = some (.lst (nv [t, pc])) := by
        rw [upd_ne (fun e => n1 (by rw [e]; exact List.mem_of_getElem? (show (va :: sa :: ma :: Dl :: ps)[t + 4]? = some tp from htp)))]
        exact h6
      generalize upd H6 tp (.lst (nv ((L.getD t []).eraseIdx pc))) = H7 at p7 h7
      have hL1 : (L.set t ((L.getD t []).eraseIdx pc)).length = L.length := List.length_set ..
      have hL1c : ∀ x ∈ (L.set t ((L.getD t []).eraseIdx pc)).flatten, x ∈ L.flatten := fun x hx => by
        have c1 := count_set L t ((L.getD t []).eraseIdx pc) x htl
        have c2 := count_eraseIdx _ _ _ x hgn
        have c3 := count_of_mem hx
        exact mem_of_count (by omega)
      have hL1l : ∀ j, j < L.length → ((L.set t ((L.getD t []).eraseIdx pc)).getD j []).length ≤ 40 := fun j hj => by
        rw [getD_set htl]
        split
        · exact Nat.le_trans (List.length_eraseIdx_le ..) hrt
        · exact hrowl j hj
      generalize L.set t ((L.getD t []).eraseIdx pc) = L1 at p7 hpl hcnt' hL1 hL1c hL1l
      obtain ⟨u, hu⟩ : ∃ u, u = Vbenai.homeOf r n := ⟨_, rfl⟩
      rw [← hu] at hpl hul
      have hcnt' : ∀ x, (L1.set u (Vbenai.putAt (L1.getD u []) (Vbenai.placeFor r S (L1.getD u []) n) n)).flatten.count x = L.flatten.count x := by rw [hu]; exact hcnt'
      -- home = room.home_of(n)
      refine e_asg ?_
      refine v_home (R.same p7.sm) I hnc (val_var rfl) (val_var rfl) _ ?_
      rw [← hu]
      -- place = place_at_home(room, trays[home], settled, n)
      obtain ⟨tu, htu⟩ : ∃ tu, ps[u]? = some tu := ⟨_, List.getElem?_eq_getElem (by rw [psl]; exact hul)⟩
      have hLu : L1[u]? = some (L1.getD u []) := by rw [List.getD_eq_getElem?_getD, List.getElem?_eq_getElem (by rw [hL1]; exact hul)]; rfl
      have hrowu := p7.hP.2 u tu _ htu (by rw [List.getElem?_map, hLu]; rfl)
      refine e_asg ?_
      refine e_call (va_cons (val_var rfl) (va_cons (val_ixL (K := K) (j := u) (val_var rfl) (val_var rfl) (SqL.of p7.hD) rfl (v_ref_get htu)) (va_cons (val_var rfl) (va_1 (val_var rfl))))) ⟨a, tu, sa, A, r, log, L1.getD u [], S, n, rfl, R.same p7.sm, I, hrowu, p7.hS, fun x hx => hLc x (hL1c x (List.mem_flatten.mpr ⟨_, getD_mem (by rw [hL1]; exact hul), hx⟩)), hnc, fun H8 s8 => ?_⟩
      have p8 := p7.same s8
      have h8 := s8 _ _ h7
      have hrowu8 := s8 _ _ hrowu
      have hql := placeFor_le r S (L1.getD u []) n
      have hll := hL1l u hul
      generalize Vbenai.placeFor r S (L1.getD u []) n = q at hql hcnt' hpl
      -- trays[home].insert(place, n)
      refine e_drop ?_
      refine val_ixL (K := K) (j := u) (val_var rfl) (val_var rfl) (SqL.of p8.hD) rfl (v_ref_get htu) _ ?_
      refine ⟨.inl ⟨rfl, _, SqL.of hrowu8⟩, _, rfl, _, rfl, tu, _, _, _, rfl, rfl, hrowu8, sz (by rw [nv_len]; omega), by omega, by omega, ?_⟩
      rw [Int.toNat_natCast, nv_put]
      have p9 := p8.row htu (Vbenai.putAt (L1.getD u []) q n)
      have h9 : upd H8 tu (.lst (nv (Vbenai.putAt (L1.getD u []) q n))) x1 = some (.lst (nv [t, pc])) := by
        rw [upd_ne (fun e => n1 (by rw [e]; exact List.mem_of_getElem? (show (va :: sa :: ma :: Dl :: ps)[u + 4]? = some tu from htu)))]
        exact h8
      generalize upd H8 tu (.lst (nv (Vbenai.putAt (L1.getD u []) q n))) = H9 at p9 h9
      -- settled.append(n)
      refine sq_app (val_var rfl) (val_var rfl) p9.hS (by rw [nv_len]; omega) ?_
      have e10 : nv S ++ [V.int (n : Int)] = nv (S ++ [n]) := (nv_app S [n]).symm
      rw [e10]
      have p10 := p9.settle n
      have h10 : upd H9 sa (.lst (nv (S ++ [n]))) x1 = some (.lst (nv [t, pc])) := by
        rw [upd_ne (fun e => n1 (by rw [e]; simp))]
        exact h9
      generalize upd H9 sa (.lst (nv (S ++ [n]))) = H10 at p10 h10
      -- moves.append(spot + [home, place])
      refine e_drop1 ?_
      refine ⟨_, rfl, .inl ⟨rfl, _, SqL.of p10.hV⟩, _, rfl, _, rfl, _, rfl, (by show 2 ≤ sizeLine; decide), fun x2 hx2 => ?_⟩
      have p11 := p10.same (same_new (o := .lst [.int (u : Int), .int (q : Int)]) hx2)
      have h11 := same_new (o := .lst [.int (u : Int), .int (q : Int)]) hx2 _ _ h10
      refine ⟨x1, x2, _, _, rfl, rfl, h11, upd_same, (by show 4 ≤ sizeLine; decide), fun x3 hx3 => ?_⟩
      have p12 := p11.same (same_new (o := .lst (nv [t, pc, u, q])) hx3)
      have msl : ms.length = i := by
        have z := p12.hM.1
        rw [List.length_map, List.length_map] at z
        omega
      refine ⟨va, _, _, rfl, rfl, p12.hV, ?_, ?_⟩
      · rw [len_refs, msl]
        exact Nat.lt_of_le_of_lt (show i ≤ 1000 by omega) (by decide)
      have em : ms.map V.ref ++ [V.ref x3] = (ms ++ [x3]).map V.ref := by rw [List.map_append]; rfl
      rw [em]
      have p13 := p12.move (x := x3) (l := [t, pc, u, q]) upd_same (fun m => p11.alive m hx3)
      refine ⟨_, _, _, _, v9, ms ++ [x3], _, S ++ [n], done ++ [⟨t, pc, u, q⟩], rfl, ?_, ?_, fun x => (hcnt' x).trans (hcnt x), ?_, ?_, ?_⟩
      · have ed : (done ++ [(⟨t, pc, u, q⟩ : Vbenai.Move)]).map moveRow = done.map moveRow ++ [[t, pc, u, q]] := by rw [List.map_append]; rfl
        rw [ed]
        exact p13
      · rw [List.length_set, hL1, hL]
      · rw [List.length_append]
        simp
        omega
      · rw [List.length_append, hdl]
        rfl
      · rw [List.append_assoc]
        exact hpl
    · rintro σ H5 ⟨v5, v6, v7, v8, v9, ms, L, S, done, rfl, p5, hL, hcnt, hSl, hdl, hpl⟩
      rw [nv_len] at hdl hpl
      rw [List.drop_length] at hpl
      have ed : done = Vbenai.plan r := by
        rw [← hpl]
        simp [Vbenai.planFrom]
      have dl : done.length ≤ 40 := by omega
      rw [ed] at p5 dl
      refine st_retc (va_1 (val_var rfl)) ⟨va, ms, _, rfl, p5.hV, p5.hM.a, ?_, ?_⟩
      · rw [moves_flat, List.length_map, moves_flat_len]
        omega
      · rw [moves_flat, List.length_map, List.length_map]
        exact NewL.back k p5.sm
end
end Cc

set_option Elab.async false
set_option linter.all false
set_option maxRecDepth 100000
set_option maxHeartbeats 4000000
namespace Cc
open PySem PySem.Spec PyProof.Rows L2
open VbenCore (isBetween)

/-! ### a room as data -/
theorem eqv_map {α : Type} [DecidableEq α] (f : α → PyData) (h : ∀ x y, PyData.eqv (f x) (f y) = decide (x = y)) : ∀ xs ys : List α, PyData.eqvAll (xs.map f) (ys.map f) = decide (xs = ys)
  | [], [] => rfl
  | [], y :: ys => rfl
  | x :: xs, [] => rfl
  | x :: xs, y :: ys => by
    show (PyData.eqv (f x) (f y) && PyData.eqvAll (xs.map f) (ys.map f)) = _
    rw [h, eqv_map f h xs ys, Bool.eq_iff_iff]
    simp
theorem lay_map {α : Type} (f : α → PyData) (h : ∀ x, PyData.canLay0 (f x) = true) : ∀ xs : List α, PyData.canLayAll0 (xs.map f) = true
  | [] => rfl
  | x :: xs => by
    show (PyData.canLay0 (f x) && PyData.canLayAll0 (xs.map f)) = true
    rw [h, lay_map f h xs]
    rfl
theorem depth_map {α : Type} (f : α → PyData) (d : Nat) (h : ∀ x, PyData.depth (f x) ≤ d) : ∀ xs : List α, PyData.depthAll (xs.map f) ≤ d
  | [] => Nat.zero_le _
  | x :: xs => Nat.max_le.mpr ⟨h x, depth_map f d h xs⟩
def natD (n : Nat) : PyData := .int (n : Int)
def rowD (l : List Nat) : PyData := .list (l.map natD)
def cardD (x : Vbenai.Card) : PyData := .tuple [.int (x.number : Int), .tuple [.int (x.home : Int), .int x.key]]
def lentD (x : Nat × Nat) : PyData := .tuple [.int (x.1 : Int), .int (x.2 : Int)]
def roomD (r : Vbenai.Room) : PyData := .list [.list (r.cards.map cardD), .list (r.trays.map rowD), .list (r.hands.map rowD), .list (r.lent.map lentD), rowD r.lost]
theorem nat_eqv (x y : Nat) : PyData.eqv (natD x) (natD y) = decide (x = y) := by
  show ((x : Int) == (y : Int)) = decide (x = y)
  rw [Bool.eq_iff_iff]
  simp only [beq_iff_eq, decide_eq_true_eq]
  omega
theorem row_eqv (x y : List Nat) : PyData.eqv (rowD x) (rowD y) = decide (x = y) := eqv_map natD nat_eqv x y
theorem card_eqv (x y : Vbenai.Card) : PyData.eqv (cardD x) (cardD y) = decide (x = y) := by
  show (((x.number : Int) == (y.number : Int)) && ((((x.home : Int) == (y.home : Int)) && ((x.key == y.key) && true)) && true)) = _
  rw [Bool.eq_iff_iff]
  obtain ⟨a, b, c⟩ := x
  obtain ⟨d, e, f⟩ := y
  simp only [Bool.and_eq_true, beq_iff_eq, decide_eq_true_eq, and_true, Vbenai.Card.mk.injEq]
  constructor
  · rintro ⟨h1, h2, h3⟩
    exact ⟨by omega, by omega, h3⟩
  · rintro ⟨h1, h2, h3⟩
    exact ⟨by omega, by omega, h3⟩
theorem lent_eqv (x y : Nat × Nat) : PyData.eqv (lentD x) (lentD y) = decide (x = y) := by
  show (((x.1 : Int) == (y.1 : Int)) && (((x.2 : Int) == (y.2 : Int)) && true)) = _
  rw [Bool.eq_iff_iff]
  obtain ⟨a, b⟩ := x
  obtain ⟨d, e⟩ := y
  simp only [Bool.and_eq_true, beq_iff_eq, decide_eq_true_eq, and_true, Prod.mk.injEq]
  constructor
  · rintro ⟨h1, h2⟩
    exact ⟨by omega, by omega⟩
  · rintro ⟨h1, h2⟩
    exact ⟨by omega, by omega⟩
theorem room_eqv (x y : Vbenai.Room) : PyData.eqv (roomD x) (roomD y) = decide (x = y) := by
  show (PyData.eqvAll (x.cards.map cardD) (y.cards.map cardD) && (PyData.eqvAll (x.trays.map rowD) (y.trays.map rowD) && (PyData.eqvAll (x.hands.map rowD) (y.hands.map rowD) && (PyData.eqvAll (x.lent.map lentD) (y.lent.map lentD) && (PyData.eqv (rowD x.lost) (rowD y.lost) && true))))) = _
  rw [eqv_map cardD card_eqv, eqv_map rowD row_eqv, eqv_map rowD row_eqv, eqv_map lentD lent_eqv, row_eqv, Bool.eq_iff_iff]
  obtain ⟨a, b, c, d, e⟩ := x
  obtain ⟨a', b', c', d', e'⟩ := y
  simp only [Bool.and_eq_true, decide_eq_true_eq, and_true, Vbenai.Room.mk.injEq]
theorem row_lay (l : List Nat) : PyData.canLay0 (rowD l) = true := lay_map natD (fun _ => rfl) l
theorem row_depth (l : List Nat) : PyData.depth (rowD l) ≤ 1 := Nat.succ_le_succ (depth_map natD 0 (fun _ => Nat.le_refl _) l)
theorem room_shaped (r : Vbenai.Room) : SeqAt.shaped (roomD r) = true := by
  unfold SeqAt.shaped
  have e : PyData.canLay0 (roomD r) = true := by
    show (PyData.canLayAll0 (r.cards.map cardD) && (PyData.canLayAll0 (r.trays.map rowD) && (PyData.canLayAll0 (r.hands.map rowD) && (PyData.canLayAll0 (r.lent.map lentD) && (PyData.canLay0 (rowD r.lost) && true))))) = true
    rw [lay_map cardD (fun _ => rfl), lay_map rowD row_lay, lay_map rowD row_lay, lay_map lentD (fun _ => rfl), row_lay]
    rfl
  rw [e]
  have d : PyData.depth (roomD r) ≤ 64 := by
    have h1 := depth_map cardD 2 (fun _ => by show 2 ≤ 2; decide) r.cards
    have h2 := depth_map rowD 1 row_depth r.trays
    have h3 := depth_map rowD 1 row_depth r.hands
    have h4 := depth_map lentD 1 (fun _ => by show 1 ≤ 1; decide) r.lent
    have h5 := row_depth r.lost
    show max (PyData.depthAll (r.cards.map cardD) + 1) (max (PyData.depthAll (r.trays.map rowD) + 1) (max (PyData.depthAll (r.hands.map rowD) + 1) (max (PyData.depthAll (r.lent.map lentD) + 1) (max (PyData.depth (rowD r.lost)) 0)))) + 1 ≤ 64
    omega
  exact decide_eq_true d
section
variable {K : PySem.W.Frag} {H : Hp}
theorem dp_nv : ∀ l : List Nat, DpAll K H (nv l) (l.map natD)
  | [] => .nil
  | n :: l => .cons (.int _) (dp_nv l)
theorem dp_row {t : Addr} {l : List Nat} (h : H t = some (.lst (nv l))) : Dp K H (.ref t) (rowD l) := .lst (SqL.of h) (dp_nv l)
theorem dp_rows : ∀ {as : List Addr} {L : List (List Nat)}, Rows H as (L.map nv) → DpAll K H (as.map V.ref) (L.map rowD)
  | [], [], _ => .nil
  | [], _ :: _, h => by have := h.1; simp at this
  | _ :: _, [], h => by have := h.1; simp at this
  | t :: as, l :: L, h => .cons (dp_row (h.2 0 t (nv l) rfl rfl)) (dp_rows ⟨by have := h.1; simpa using this, fun i u z h1 h2 => h.2 (i + 1) u z h1 h2⟩)
theorem dp_lent : ∀ {ts : List Addr} {l : List (Nat × Nat)}, Paired (fun (t : Addr) (q : Key × V) => H t = some (.tup [kV q.1, q.2])) ts (lK l) → DpAll K H (ts.map V.ref) (l.map lentD)
  | [], [], _ => .nil
  | _ :: _, _ :: _, .cons h t => .cons (.tup (SqT.of h) (.cons (.int _) (.cons (.int _) .nil))) (dp_lent t)
theorem dp_cards : ∀ {ts : List Addr} {cards : List Vbenai.Card} {cs : List Addr}, cs.length = cards.length → (∀ (i : Nat) (t : Addr) (x : Vbenai.Card), cs[i]? = some t → cards[i]? = some x → H t = some (.tup [.int (x.home : Int), .int x.key])) →
    Paired (fun (t : Addr) (q : Key × V) => H t = some (.tup [kV q.1, q.2])) ts (cK cards cs) → DpAll K H (ts.map V.ref) (cards.map cardD)
  | [], [], [], _, _, _ => .nil
  | _, [], _ :: _, h, _, _ => by simp at h
  | _, _ :: _, [], h, _, _ => by simp at h
  | _ :: _, x :: cards, u :: cs, hl, hc, .cons h t => .cons (.tup (SqT.of h) (.cons (.int _) (.cons (.tup (SqT.of (hc 0 u x rfl rfl)) (.cons (.int _) (.cons (.int _) .nil))) .nil))) (dp_cards (by simpa using hl) (fun i t y h1 h2 => hc (i + 1) t y h1 h2) t)
  | _ :: _, [], [], _, _, h => by cases h
end
theorem Paired.same {H H' : Hp} (s : Same H H') : ∀ {ts : List Addr} {kvs : List (Key × V)}, Paired (fun (t : Addr) (q : Key × V) => H t = some (.tup [kV q.1, q.2])) ts kvs → Paired (fun (t : Addr) (q : Key × V) => H' t = some (.tup [kV q.1, q.2])) ts kvs
  | _, _, .nil => .nil
  | _, _, .cons h t => .cons (s _ _ h) (Paired.same s t)
/-! ### all_it_holds -/
def spHolds (K : PySem.W.Frag) (C : Addr) : Sp := fun vs H Q _ => ∃ (a : Addr) (A : Ad) (r : Vbenai.Room) (log : List Vbenai.Event), vs = [.ref a] ∧ RoomAt C H a A r log ∧ ∀ (H' : Hp) (p : Addr), Same H H' → (∀ H'', Same H' H'' → Dp K H'' (.ref p) (roomD r)) → Q (.ref p) H'
section
variable {P : Program} {w : World} {K : PySem.W.Frag} {mg : Str → Option Value} {base : Heap} {C : Addr}
theorem sc_all_it_holds : FnScope ["room", "cards", "lent"] ["room"] (defScope (top 38)) := ⟨rfl, rfl, rfl, by decide +kernel, rfl, by decide +kernel, by decide +kernel⟩
theorem g_all_it_holds (D : DefAt K mg "all_it_holds" (top 38)) (T : Txt K mg C) : FnG P w K mg base "all_it_holds" 1 ["room"] (spHolds K C) := by
  refine D.fn sc_all_it_holds (fun _ _ _ _ _ _ us hl => match us, hl with | [_], _ => rfl) (fun vs H Q E h => ?_) (fun f cdv Ar outer s H vs Q E hr h => ?_)
  · obtain ⟨_, _, _, _, rfl, _⟩ := h
    rfl
  · obtain ⟨a, A, r, log, rfl, R, k⟩ := h
    refine ⟨_, pss_cons (ps_set (i := 1) sc_all_it_holds.nd rfl (Or.inl rfl) (LiI.pe_listItems rfl (pe_fld (pv 0) rfl) (by rfl) T.list (by decide +kernel)))
      (pss_cons (ps_set (i := 2) sc_all_it_holds.nd rfl (Or.inl rfl) (LiI.pe_listItems rfl (pe_fld (pv 0) rfl) (by rfl) T.list (by decide +kernel)))
      (pss_one (ps_ret (pe_lst (pa_cons (pv 1) (pa_cons (pe_fld (pv 0) rfl) (pa_cons (pe_fld (pv 0) rfl) (pa_cons (pv 2) (pa_cons (pe_fld (pv 0) rfl) pa_nil))))))))), ?_⟩
    refine e_asg ?_
    refine val_fld (val_var rfl) R.ob T.cl T.nCards (f_cards A) _ ?_
    refine ⟨A.cd, _, rfl, R.dc, fun H1 p1 ts1 s1 _ _ _ h1 pr1 => ?_⟩
    have R1 := R.same s1
    refine e_asg ?_
    refine val_fld (val_var rfl) R1.ob T.cl T.nLent (f_lent A) _ ?_
    refine ⟨A.ld, _, rfl, R1.dl, fun H2 p2 ts2 s2 _ _ _ h2 pr2 => ?_⟩
    have R2 := R1.same s2
    refine st_retLst (va_cons (val_var rfl) (va_cons (val_fld (val_var rfl) R2.ob T.cl T.nTrays (f_trays A)) (va_cons (val_fld (val_var rfl) R2.ob T.cl T.nHands (f_hands A)) (va_cons (val_var rfl) (va_1 (val_fld (val_var rfl) R2.ob T.cl T.nLost (f_lost A))))))) (by show 5 ≤ 1000; decide) ?_
    intro q H3 hq s3 h3
    refine k H3 q ((Same.trans s1 s2).trans s3) fun H4 s4 => ?_
    have s24 : Same H2 H4 := s3.trans s4
    have s14 : Same H1 H4 := Same.trans s2 s24
    have R4 := R2.same s24
    refine .lst (SqL.of (s4 _ _ h3)) (.cons (.lst (SqL.of (s14 _ _ h1)) (dp_cards R4.cl R4.ct (Paired.same s14 pr1))) (.cons (.lst (SqL.of R4.dt) (dp_rows R4.tt)) (.cons (.lst (SqL.of R4.dh) (dp_rows R4.hh)) (.cons (.lst (SqL.of (s24 _ _ h2)) (dp_lent (Paired.same s24 pr2))) (.cons (dp_row R4.ds) .nil)))))
end
end Cc

set_option Elab.async false
set_option linter.all false
set_option maxRecDepth 100000
set_option maxHeartbeats 4000000
namespace Cc
open PySem PySem.Spec PyProof.Rows L2
open VbenCore (isBetween)

/-- an answer as a new list, and the room as it is due -/
def AnsR (C a : Addr) (A : Ad) (s : Vbenai.State) (ans : List Int) (H : Hp) (Q : VK) : Prop :=
  ∀ (p : Addr) (H' : Hp) (A' : Ad), RoomAt C H' a A' s.room s.log → Fr H a A H' A' → H p = none → p ∉ a :: A'.own → H' p = some (.lst (ans.map V.int)) → Q (.ref p) H'
theorem Fr.x {H H' : Hp} {a b : Addr} {A A' : Ad} (f : Fr H a A H' A') : FrX H a A b H' A' := ⟨f.km, fun x m => (f.nw x m).imp_right .inl, f.nm, f.dm⟩
theorem CallQ.r {C a b : Addr} {A : Ad} {s s' : Vbenai.State} {c : List (List Int)} {ans : List Int} {H : Hp} {Q : VK} (k : CallQ C a A b s c H Q) (e : Vbenai.step s c = (s', ans)) : AnsR C a A s' ans H Q := fun p H' A' R F hp np h => by
  unfold CallQ at k
  rw [e] at k
  exact k p H' A' R F.x hp np h
/-- nothing has changed but what is new -/
theorem AnsR.new {C a : Addr} {A : Ad} {s : Vbenai.State} {ans : List Int} {H : Hp} {Q : VK} (R : RoomAt C H a A s.room s.log) (k : AnsR C a A s ans H Q) : NewL H (ans.map V.int) Q := fun p H' hp sm h => k p H' A (R.same sm) (Fr.same sm) hp (fun m => R.alive m hp) h
def spBeginRoom (C : Addr) : Sp := fun vs H Q _ => ∃ (a : Addr) (A : Ad) (s : Vbenai.State) (t c : Int), vs = [.ref a, .int t, .int c] ∧ RoomAt C H a A s.room s.log ∧
  AnsR C a A (Vbenai.step s [[0, t, c]]).1 (Vbenai.step s [[0, t, c]]).2 H Q
section
variable {P : Program} {w : World} {K : PySem.W.Frag} {mg : Str → Option Value} {base : Heap} {C : Addr}
theorem sc_begin_room : FnScope ["room", "trays", "clerks"] ["room", "trays", "clerks"] (defScope (top 75)) := ⟨rfl, rfl, rfl, by decide +kernel, rfl, by decide +kernel, by decide +kernel⟩
theorem g_begin_room (D : DefAt K mg "begin_room" (top 75)) (T : Txt K mg C) (g_is_room_size : FnG P w K mg base "is_room_size" 1 ["trays", "clerks"] spSize) (m_begin : MtG P w K mg base C "begin" 1 ["self", "trays", "clerks"] (spBegin C)) : FnG P w K mg base "begin_room" 2 ["room", "trays", "clerks"] (spBeginRoom C) := by
  refine D.fn sc_begin_room (fun _ _ _ _ _ _ us hl => match us, hl with | [_, _, _], _ => rfl) (fun vs H Q E h => ?_) (fun f cdv Ar outer s0 H vs Q E hr h => ?_)
  · obtain ⟨_, _, _, _, _, rfl, _⟩ := h
    rfl
  · obtain ⟨a, A, s, t, c, rfl, R, k⟩ := h
    refine ⟨_, pss_cons (ps_if (pt_not (pt_val (pe_fn g_is_room_size hr (pa_cons (pv 1) (pa_cons (pv 2) pa_nil))))) (pss_one (ps_ret (pe_lst (pa_cons (pe_num (T.at_ 0 rfl)) pa_nil)))) pss_nil)
      (pss_cons (ps_expr (pe_mt m_begin T.cl hr (pv 0) (pa_cons (pv 1) (pa_cons (pv 2) pa_nil))))
      (pss_one (ps_ret (pe_lst (pa_cons pe_int pa_nil))))), ?_⟩
    rw [due_room] at k
    refine sq_retLst (ans_not (ans_val (val_call (va_cons (val_var rfl) (va_1 (val_var rfl))) (size_p (t := t) (c := c))))) (va_1 val_c) (by show 1 ≤ 1000; decide) (fun e => ?_) (fun e => ?_)
    · rw [if_pos (not_t e)] at k
      exact k.new R
    have ok := not_f e
    rw [if_neg (by rw [ok]; decide)] at k
    obtain ⟨o1, o2⟩ := Bool.and_eq_true_iff.mp ok
    have o1 := btw o1
    have o2 := btw o2
    refine ⟨_, rfl, a, A.dx, _, rfl, R.ob, f_begin A, _, rfl, _, rfl, a, A.dx, _, t, c, rfl, R.ob, .inr ⟨A, rfl⟩, by omega, by omega, by omega, by omega, fun H1 A1 R1 _ kp nw => ?_⟩
    have F1 : Fr H a A H1 A1 := ⟨fun b o h n => kp b o h (fun e => n (by rw [e]; exact List.mem_cons_self)), fun b m => .inr (nw b m), fun b m => .inr (nw b (mut_own m)), fun b h => by
      by_cases e : b = a
      · rw [e]; exact R1.alive List.mem_cons_self
      · cases q : H b with
        | none => exact absurd q h
        | some o => rw [kp b o q e]; simp⟩
    refine ⟨(by show 1 ≤ sizeLine; decide), fun p hp => ?_⟩
    exact k p _ A1 (R1.same (same_new hp)) (F1.trans (Fr.new hp)) (Classical.byContradiction fun z => F1.dm p z hp) (fun m => R1.alive m hp) upd_same
end
end Cc

set_option Elab.async false
set_option linter.all false
set_option maxRecDepth 100000
set_option maxHeartbeats 4000000
namespace Cc
open VbenCore (isBetween)

/-! ### steps played one behind another -/
theorem played_append : ∀ (a b : List Vbenai.Event) (r : Vbenai.Room), Vbenai.played r (a ++ b) = (Vbenai.played r a).bind fun u => Vbenai.played u b
  | [], b, r => rfl
  | e :: a, b, r => by
    simp only [List.cons_append, Vbenai.played]
    cases Vbenai.stepped r e with
    | error n => rfl
    | ok u => exact played_append a b u
theorem played_take_some {r r' : Vbenai.Room} {l : List Vbenai.Event} (h : Vbenai.played r l = some r') (i : Nat) : ∃ u, Vbenai.played r (l.take i) = some u := by
  rw [← List.take_append_drop i l, played_append] at h
  cases e : Vbenai.played r (l.take i) with
  | none => rw [e] at h; cases h
  | some u => exact ⟨u, rfl⟩
/-- one step more -/
theorem played_next {r u : Vbenai.Room} {l : List Vbenai.Event} {i : Nat} {e : Vbenai.Event} (h : Vbenai.played r (l.take i) = some u) (he : l[i]? = some e) :
    Vbenai.played r (l.take (i + 1)) = match Vbenai.stepped u e with | .error _ => none | .ok v => some v := by
  have z : l.take (i + 1) = l.take i ++ [e] := by
    rw [List.take_add_one, he]
    rfl
  rw [z, played_snoc, h]
  rfl
/-- a step that can't be: none of what begins so can be -/
theorem played_stop {r u : Vbenai.Room} {l : List Vbenai.Event} {i n : Nat} {e : Vbenai.Event} (h : Vbenai.played r (l.take i) = some u) (he : l[i]? = some e) (hs : Vbenai.stepped u e = .error n) : Vbenai.played r l = none := by
  rw [← List.take_append_drop (i + 1) l, played_append, played_next h he, hs]
  rfl
/-- the row of a step in its ranges is read as it -/
theorem evOf_row {r : Vbenai.Room} {e : Vbenai.Event} (h : EvOk r.trays.length r.hands.length e) : evOf r (Vbenai.eventRow e) = some (e, true) := by
  have bt : ∀ {n : Nat} {k : Nat}, n ≤ k → isBetween (n : Int) 0 (k : Int) = true := fun h => by
    unfold VbenCore.isBetween
    rw [decide_eq_true (by omega), decide_eq_true (by omega)]
    rfl
  have tr : ∀ {t : Nat}, t < r.trays.length → isTr r (t : Int) = true := fun h => by
    unfold isTr VbenCore.isBetween
    rw [decide_eq_true (by omega), decide_eq_true (by omega)]
    rfl
  have cl : ∀ {t : Nat}, t < r.hands.length → isCl r (t : Int) = true := fun h => by
    unfold isCl VbenCore.isBetween
    rw [decide_eq_true (by omega), decide_eq_true (by omega)]
    rfl
  cases e with
  | card n t k =>
    obtain ⟨h1, h2, h3, h4⟩ := h
    have e3 : isBetween k (-1000) 1000 = true := by
      unfold VbenCore.isBetween
      rw [decide_eq_true h3, decide_eq_true h4]
      rfl
    have e1 : isBetween (n : Int) 0 999 = true := bt (k := 999) h1
    show some (Vbenai.Event.card (n : Int).toNat (t : Int).toNat k, isBetween (n : Int) 0 999 && (isTr r (t : Int) && isBetween k (-1000) 1000)) = _
    rw [e1, tr h2, e3, Int.toNat_natCast, Int.toNat_natCast]
    rfl
  | take c t p =>
    obtain ⟨h1, h2, h3⟩ := h
    have e3 : isBetween (p : Int) 0 40 = true := bt (k := 40) h3
    show some (Vbenai.Event.take (c : Int).toNat (t : Int).toNat (p : Int).toNat, isCl r (c : Int) && (isTr r (t : Int) && isBetween (p : Int) 0 40)) = _
    rw [cl h1, tr h2, e3, Int.toNat_natCast, Int.toNat_natCast, Int.toNat_natCast]
    rfl
  | put c h' t p =>
    obtain ⟨h1, h2, h3, h4⟩ := h
    have e3 : isBetween (p : Int) 0 40 = true := bt (k := 40) h4
    have e2 : isBetween (h' : Int) 0 2 = true := bt (k := 2) h2
    show some (Vbenai.Event.put (c : Int).toNat (h' : Int).toNat (t : Int).toNat (p : Int).toNat, isCl r (c : Int) && (isBetween (h' : Int) 0 2 && (isTr r (t : Int) && isBetween (p : Int) 0 40))) = _
    rw [cl h1, e2, tr h3, e3, Int.toNat_natCast, Int.toNat_natCast, Int.toNat_natCast, Int.toNat_natCast]
    rfl
  | lend c h' w =>
    obtain ⟨h1, h2, h3⟩ := h
    have e3 : isBetween (w : Int) 0 9 = true := bt (k := 9) h3
    have e2 : isBetween (h' : Int) 0 2 = true := bt (k := 2) h2
    show some (Vbenai.Event.lend (c : Int).toNat (h' : Int).toNat (w : Int).toNat, isCl r (c : Int) && (isBetween (h' : Int) 0 2 && isBetween (w : Int) 0 9)) = _
    rw [cl h1, e2, e3, Int.toNat_natCast, Int.toNat_natCast, Int.toNat_natCast]
    rfl
  | back c n =>
    obtain ⟨h1, h2⟩ := h
    have e2 : isBetween (n : Int) 0 999 = true := bt (k := 999) h2
    show some (Vbenai.Event.back (c : Int).toNat (n : Int).toNat, isCl r (c : Int) && isBetween (n : Int) 0 999) = _
    rw [cl h1, e2, Int.toNat_natCast, Int.toNat_natCast]
    rfl
  | lose n =>
    have e2 : isBetween (n : Int) 0 999 = true := bt (k := 999) h
    show some (Vbenai.Event.lose (n : Int).toNat, isBetween (n : Int) 0 999) = _
    rw [e2, Int.toNat_natCast]
  | find n t =>
    obtain ⟨h1, h2⟩ := h
    have e2 : isBetween (n : Int) 0 999 = true := bt (k := 999) h1
    show some (Vbenai.Event.find (n : Int).toNat (t : Int).toNat, isBetween (n : Int) 0 999 && isTr r (t : Int)) = _
    rw [e2, tr h2, Int.toNat_natCast, Int.toNat_natCast]
    rfl
/-- two that follow one another the other way round -/
theorem exchanged_at {l : List Vbenai.Event} {i : Nat} {x y : Vbenai.Event} (hx : l[i]? = some x) (hy : l[i + 1]? = some y) : Vbenai.exchanged l i = l.take i ++ (y :: x :: l.drop (i + 2)) := by
  unfold Vbenai.exchanged
  have h1 := (List.getElem?_eq_some_iff.mp hx)
  have h2 := (List.getElem?_eq_some_iff.mp hy)
  obtain ⟨l1, e1⟩ := h1
  obtain ⟨l2, e2⟩ := h2
  rw [List.drop_eq_getElem_cons l2, List.drop_eq_getElem_cons l1, e1, e2]
  rfl
end Cc

set_option Elab.async false
set_option linter.all false
set_option maxRecDepth 100000
set_option maxHeartbeats 4000000
namespace Cc
open PySem PySem.Spec PyProof.Rows L2
open VbenCore (isBetween)

theorem cut_last (xs : List V) : cutV xs none (some (-1)) = xs.dropLast := by
  unfold cutV
  have e : HT.sIx xs.length xs.length (some (-1)) = xs.length - 1 := by
    show (if (-1 : Int) < 0 then ((-1 : Int) + (xs.length : Int)).toNat else min (-1 : Int).toNat xs.length) = xs.length - 1
    rw [if_pos (by decide)]
    omega
  rw [HT.sIx_none, e, List.drop_zero, Nat.sub_zero, List.dropLast_eq_take]
theorem map_dropLast {α β : Type} (f : α → β) (l : List α) : (l.map f).dropLast = l.dropLast.map f := by
  rw [List.dropLast_eq_take, List.dropLast_eq_take, List.length_map, List.map_take]
/-- what is due of a step that is in its ranges and may be -/
theorem stepDue_ok {r r' : Vbenai.Room} {log : List Vbenai.Event} {e : Vbenai.Event} (h : Vbenai.stepped r e = .ok r') (hl : log.length < 120) : stepDue r log true e = (r', log ++ [e], [(log.length : Int)]) := by
  unfold stepDue
  rw [if_neg (by decide), h]
  simp only
  rw [if_neg (by omega)]
theorem stepDue_err {r : Vbenai.Room} {log : List Vbenai.Event} {e : Vbenai.Event} {n : Nat} (h : Vbenai.stepped r e = .error n) : stepDue r log true e = (r, log, [-(n : Int)]) := by
  unfold stepDue
  rw [if_neg (by decide), h]
/-- the room has nothing but what is new since H1, its rows aside -/
structure New1 (C : Addr) (H1 : Hp) (a : Addr) (xs : List Addr) (i : Nat) (H' : Hp) (A' : Ad) (r' : Vbenai.Room) (lg : List Vbenai.Event) : Prop where
  rm : RoomAt C H' a A' r' lg
  kp : Kp a H1 H'
  nm : ∀ b ∈ A'.mut, H1 b = none
  nw : ∀ b ∈ A'.own, H1 b = none ∨ b ∈ xs.take i
theorem New1.notin {C : Addr} {H1 : Hp} {a : Addr} {xs : List Addr} {i : Nat} {H' : Hp} {A' : Ad} {r' : Vbenai.Room} {lg : List Vbenai.Event} (N : New1 C H1 a xs i H' A' r' lg) (nd : xs.Nodup) {b : Addr} {o : HO} (hb : xs[i]? = some b) (ho : H1 b = some o) (na : b ≠ a) : b ∉ a :: A'.own := fun m => by
  rcases List.mem_cons.mp m with e | m
  · exact na e
  · rcases N.nw b m with z | z
    · rw [ho] at z; cases z
    · obtain ⟨j, hj⟩ := List.getElem?_of_mem z
      have hji : j < i := by
        have := (List.getElem?_eq_some_iff.mp hj).1
        rw [List.length_take] at this
        omega
      rw [List.getElem?_take_of_lt hji] at hj
      have := nd_ix nd hj hb
      omega
theorem New1.step {C : Addr} {H1 : Hp} {a : Addr} {xs : List Addr} {i : Nat} {H' H'' : Hp} {A' A'' : Ad} {r' r'' : Vbenai.Room} {lg lg' : List Vbenai.Event} (N : New1 C H1 a xs i H' A' r' lg) {b : Addr} (hb : xs[i]? = some b) (R : RoomAt C H'' a A'' r'' lg') (F : FrX H' a A' b H'' A'') : New1 C H1 a xs (i + 1) H'' A'' r'' lg' := by
  have na : ∀ x ∈ A''.own, x ≠ a := fun x hx e => (List.nodup_cons.mp R.nd).1 (e ▸ hx)
  have up : ∀ x, x ≠ a → H' x = none → H1 x = none := fun x n h => N.kp.free h n
  have et : xs.take (i + 1) = xs.take i ++ [b] := by rw [List.take_add_one, hb]; rfl
  refine ⟨R, fun x o h n => F.km x o (N.kp x o h n) fun m => ?_, fun x hx => ?_, fun x hx => ?_⟩
  · rcases List.mem_cons.mp m with e | m
    · exact n e
    · rw [N.nm x m] at h; cases h
  · have nx := na x (mut_own hx)
    rcases F.nm x hx with m | z
    · rcases List.mem_cons.mp m with e | m
      · exact absurd e nx
      · exact N.nm x m
    · exact up x nx z
  · have nx := na x hx
    rw [et]
    rcases F.nw x hx with m | z | z
    · rcases List.mem_cons.mp m with e | m
      · exact absurd e nx
      · exact (N.nw x m).imp_right fun q => List.mem_append_left _ q
    · exact .inl (up x nx z)
    · exact .inr (List.mem_append_right _ (by rw [z]; exact List.mem_singleton.mpr rfl))
def spUndo (C : Addr) : Sp := fun vs H Q _ => ∃ (a : Addr) (A : Ad) (s : Vbenai.State), vs = [.ref a] ∧ RoomAt C H a A s.room s.log ∧ SInv s ∧ AnsR C a A (Vbenai.step s [[19]]).1 (Vbenai.step s [[19]]).2 H Q
section
variable {P : Program} {w : World} {K : PySem.W.Frag} {mg : Str → Option Value} {base : Heap} {C : Addr}
theorem sc_undo_step : FnScope ["room", "steps", "step"] ["room"] (defScope (top 37)) := ⟨rfl, rfl, rfl, by decide +kernel, rfl, by decide +kernel, by decide +kernel⟩
theorem g_undo_step (D : DefAt K mg "undo_step" (top 37)) (T : Txt K mg C) (m_begin : MtG P w K mg base C "begin" 1 ["self", "trays", "clerks"] (spBegin C)) (g_do_step : FnG P w K mg base "do_step" 4 ["room", "step"] (spDo C)) : FnG P w K mg base "undo_step" 5 ["room"] (spUndo C) := by
  refine D.fn sc_undo_step (fun _ _ _ _ _ _ us hl => match us, hl with | [_], _ => rfl) (fun vs H Q E h => ?_) (fun f cdv Ar outer s0 H vs Q E hr h => ?_)
  · obtain ⟨_, _, _, rfl, _⟩ := h
    rfl
  · obtain ⟨a, A, s, rfl, R, S, k⟩ := h
    have hr1 := hr.mono (show 1 ≤ 4 by decide)
    refine ⟨_, pss_cons (ps_if (pt_cmpR op_eq (pe_callB call_len_seq (by rfl) T.len PySem.boot_len (pa_cons (pe_fld (pv 0) rfl) pa_nil)) pe_int (nomark _)) (pss_one (ps_ret (pe_lst (pa_cons (pe_num (T.at_ 14 rfl)) pa_nil)))) pss_nil)
      (pss_cons (ps_set (i := 1) sc_undo_step.nd rfl (Or.inl rfl) (pe_slice sl_list (pe_fld (pv 0) rfl) po_none (po_some (pe_un un_neg pe_int))))
      (pss_cons (ps_expr (pe_mt m_begin T.cl hr1 (pv 0) (pa_cons (pe_callB call_len_seq (by rfl) T.len PySem.boot_len (pa_cons (pe_fld (pv 0) rfl) pa_nil)) (pa_cons (pe_callB call_len_seq (by rfl) T.len PySem.boot_len (pa_cons (pe_fld (pv 0) rfl) pa_nil)) pa_nil))))
      (pss_cons (ps_for PassesOwn.never rfl (pi_list (pv 1)) (pg_name (i := 2) sc_undo_step.nd rfl (Or.inl rfl)) (pss_one (ps_expr (pe_fn g_do_step hr (pa_cons (pv 0) (pa_cons (pv 2) pa_nil))))))
      (pss_one (ps_ret (pe_lst (pa_cons (pe_callB call_len_seq (by rfl) T.len PySem.boot_len (pa_cons (pe_fld (pv 0) rfl) pa_nil)) pa_nil))))))), ?_⟩
    have tl : A.ts.length = s.room.trays.length := by have := R.tt.1; rw [List.length_map] at this; exact this
    have hdl : A.hs.length = s.room.hands.length := by have := R.hh.1; rw [List.length_map] at this; exact this
    have jl : A.js.length = s.log.length := by have := R.jj.1; rw [List.length_map] at this; exact this
    -- if len(room.journal) == 0
    refine sq_retLst (a_eq (v_len (val_fld (val_var rfl) R.ob T.cl T.nJournal (f_journal A)) R.dj) val_c) (va_1 val_c) (by show 1 ≤ 1000; decide) (fun e => ?_) (fun e => ?_)
    · have e0 : s.log = [] := List.length_eq_zero_iff.mp (by
        have z : (((A.js.map V.ref).length : Nat) : Int) = 0 := by simpa using e
        rw [len_refs, jl] at z
        omega)
      rw [due_undo0 e0] at k
      exact k.new R
    have hne : s.log ≠ [] := fun z => by
      have z2 : ¬ (((A.js.map V.ref).length : Nat) : Int) = 0 := by simpa using e
      rw [len_refs, jl, z] at z2
      exact z2 rfl
    obtain ⟨u, hu⟩ := undo_ok S hne
    rw [due_undo hne hu] at k
    -- steps = room.journal[:-1]
    refine e_asg ?_
    refine ⟨_, rfl, a, C, _, _, _, rfl, R.ob, T.cl, T.nJournal, f_journal A, 1, rfl, -1, rfl, A.jd, _, rfl, SqL.of R.dj, fun p hp => ?_⟩
    rw [cut_last, map_dropLast]
    have s1 : Same H (upd H p (.lst (A.js.dropLast.map V.ref))) := same_new hp
    have hp1 : upd H p (.lst (A.js.dropLast.map V.ref)) p = some (.lst (A.js.dropLast.map V.ref)) := upd_same
    generalize upd H p (.lst (A.js.dropLast.map V.ref)) = H1 at s1 hp1
    have R1 := R.same s1
    have npa : p ≠ a := (ne_of_none R.ob hp).symm
    -- room.begin(len(room.trays), len(room.hands))
    have htr := S.rm.tr
    have hhd := S.rm.hd
    refine e_drop ?_
    refine ⟨_, rfl, a, A.dx, _, rfl, R1.ob, f_begin A, ?_⟩
    refine va_cons (v_len (val_fld (val_var rfl) R1.ob T.cl T.nTrays (f_trays A)) R1.dt) (va_1 (v_len (val_fld (val_var rfl) R1.ob T.cl T.nHands (f_hands A)) R1.dh)) _ ?_
    rw [len_refs, len_refs, tl, hdl]
    refine ⟨a, A.dx, _, (s.room.trays.length : Int), (s.room.hands.length : Int), rfl, R1.ob, .inr ⟨A, rfl⟩, by omega, by omega, by omega, by omega, fun H2 A2 R2 _ kp2 nw2 => ?_⟩
    rw [Int.toNat_natCast, Int.toNat_natCast] at R2
    have jd : A.js.dropLast.length = s.log.dropLast.length := by rw [List.length_dropLast, List.length_dropLast, jl]
    have ndj : A.js.Nodup := by
      have z := (List.nodup_cons.mp R.nd).2
      unfold Ad.own at z
      exact (List.nodup_append.mp (List.nodup_append.mp (List.nodup_append.mp z).2.1).2.1).2.1
    have ndd : A.js.dropLast.Nodup := ndj.sublist (List.dropLast_sublist _)
    have N0 : New1 C H1 a A.js.dropLast 0 H2 A2 (Vbenai.fresh s.room.trays.length s.room.hands.length) [] := ⟨R2, kp2, fun b hb => nw2 b (mut_own hb), fun b hb => .inl (nw2 b hb)⟩
    have hbase := S.bs
    have hfr := fresh_inv S.rm.tr S.rm.hd
    have hev : ∀ e ∈ s.log.dropLast, EvOk s.room.trays.length s.room.hands.length e := fun e he => S.ev e (List.dropLast_subset _ he)
    have hll := S.ll
    -- for step in steps: do_step(room, step)
    refine ⟨_, rfl, p, rfl, ⟨_, SqL.of (kp2 _ _ hp1 npa)⟩, ?_⟩
    refine for_list (K := K) (a := p) (xs := A.js.dropLast.map V.ref) (fun i σ H' => ∃ (v2 : Option V) (A' : Ad) (r' : Vbenai.Room), σ = [some (.ref a), some (.ref p), v2] ∧ New1 C H1 a A.js.dropLast i H' A' r' (s.log.dropLast.take i) ∧ Vbenai.played s.base (s.log.dropLast.take i) = some r')
      ⟨none, A2, _, rfl, N0, by rw [hbase]; rfl⟩ (fun i σ H' _ ⟨_, _, _, _, N, _⟩ => SqL.of (N.kp _ _ hp1 npa)) ?_ ?_
    · rintro i x σ H3 hi ⟨v2, A3, r3, rfl, N3, hp3⟩
      obtain ⟨b, hb, rfl⟩ := refs_inv hi
      have hil : i < s.log.dropLast.length := by rw [← jd]; exact (List.getElem?_eq_some_iff.mp hb).1
      obtain ⟨e, he⟩ : ∃ e, s.log.dropLast[i]? = some e := ⟨_, List.getElem?_eq_getElem hil⟩
      have hb2 : A.js[i]? = some b := by
        rw [List.dropLast_eq_take] at hb
        rw [List.getElem?_take_of_lt (by rw [List.length_dropLast] at hil; omega)] at hb
        exact hb
      have he2 : s.log[i]? = some e := by
        rw [List.dropLast_eq_take] at he
        rw [List.getElem?_take_of_lt (by rw [List.length_dropLast] at hil; omega)] at he
        exact he
      have hrow := R.jj.2 i b ((Vbenai.eventRow e).map V.int) hb2 (by rw [List.getElem?_map, he2]; rfl)
      have nba : b ≠ a := ne_of hrow R.ob (by intro z; cases z)
      have hrow1 := s1 _ _ hrow
      have nin := N3.notin ndd hb hrow1 nba
      obtain ⟨I3, t3, c3⟩ := played_inv (s.log.dropLast.take i) (r := s.base) (by rw [hbase]; exact hfr) (fun e he => by
        have z := hev e (List.mem_of_mem_take he)
        rw [hbase]
        simpa [Vbenai.fresh] using z) hp3
      have t3' : r3.trays.length = s.room.trays.length := by rw [t3, hbase]; simp [Vbenai.fresh]
      have c3' : r3.hands.length = s.room.hands.length := by rw [c3, hbase]; simp [Vbenai.fresh]
      have hevo : EvOk r3.trays.length r3.hands.length e := by rw [t3', c3']; exact hev e (List.mem_of_getElem? he)
      obtain ⟨u4, hu4⟩ := played_take_some hu (i + 1)
      have hstep : Vbenai.stepped r3 e = .ok u4 := by
        have z := played_next hp3 he
        rw [hu4] at z
        cases q : Vbenai.stepped r3 e with
        | error n => rw [q] at z; cases z
        | ok v => rw [q] at z; exact congrArg _ (Option.some.inj z).symm
      have hll3 : (s.log.dropLast.take i).length = i := by rw [List.length_take]; omega
      have hil2 : i < 120 := by rw [List.length_dropLast] at hil; omega
      refine e_drop1 ?_
      refine ⟨_, rfl, _, rfl, a, b, A3, r3, s.log.dropLast.take i, Vbenai.eventRow e, e, true, rfl, N3.rm, I3, by omega, N3.kp _ _ hrow1 nba, nin, evOf_row hevo, fun q H4 A4 R4 F4 _ _ _ => ?_⟩
      rw [stepDue_ok hstep (by omega)] at R4
      have et : s.log.dropLast.take (i + 1) = s.log.dropLast.take i ++ [e] := by rw [List.take_add_one, he]; rfl
      exact ⟨_, A4, u4, rfl, by rw [et]; exact N3.step hb R4 F4, hu4⟩
    · rintro σ H3 ⟨v2, A3, r3, rfl, N3, hp3⟩
      rw [len_refs, jd, List.take_length] at N3 hp3
      rw [hp3] at hu
      cases hu
      have R3 := N3.rm
      refine ⟨_, rfl, a, C, _, _, _, rfl, R3.ob, T.cl, T.nJournal, f_journal A3, A3.jd, _, rfl, .inl (SqL.of R3.dj), (by show 1 ≤ sizeLine; decide), fun q hq => ?_⟩
      have jl3 : A3.js.length = s.log.dropLast.length := by have := R3.jj.1; rw [List.length_map] at this; exact this
      have F3 : Fr H a A H3 A3 := by
        refine ⟨fun b o h n => N3.kp b o (s1 _ _ h) (fun e => n (by rw [e]; exact List.mem_cons_self)), fun b hb => ?_, fun b hb => .inr (Same.free s1 (N3.nm b hb)), fun b h => ?_⟩
        · rcases N3.nw b hb with z | z
          · exact .inr (Same.free s1 z)
          · refine .inl (List.mem_cons_of_mem _ ?_)
            have m : b ∈ A.js := List.dropLast_subset _ (List.mem_of_mem_take z)
            exact List.mem_append_right _ (List.mem_append_right _ (List.mem_append_right _ m))
        · by_cases e : b = a
          · rw [e]; exact R3.alive List.mem_cons_self
          · cases z : H b with
            | none => exact absurd z h
            | some o => rw [N3.kp b o (s1 _ _ z) e]; simp
      refine k q _ A3 (R3.same (same_new hq)) (F3.trans (Fr.new hq)) (Classical.byContradiction fun z => F3.dm q z hq) (fun m => R3.alive m hq) ?_
      rw [upd_same, len_refs, jl3]
      show some (HO.lst [V.int ((s.log.dropLast.length : Nat) : Int)]) = some (HO.lst [V.int ((s.log.length : Int) - 1)])
      have hpos : 0 < s.log.length := List.length_pos_iff.mpr hne
      rw [List.length_dropLast, show ((s.log.length - 1 : Nat) : Int) = (s.log.length : Int) - 1 by omega]
end
end Cc

set_option Elab.async false
set_option linter.all false
set_option maxRecDepth 100000
set_option maxHeartbeats 4000000
namespace Cc
open PySem PySem.Spec PyProof.Rows L2
open VbenCore (isBetween)

/-! ### rows put one behind another -/
theorem Rows.app {H : Hp} {as bs : List Addr} {L M : List (List V)} (h1 : Rows H as L) (h2 : Rows H bs M) : Rows H (as ++ bs) (L ++ M) := by
  refine ⟨by rw [List.length_append, List.length_append, h1.1, h2.1], fun i t l e1 e2 => ?_⟩
  by_cases hi : i < as.length
  · rw [List.getElem?_append_left hi] at e1
    rw [List.getElem?_append_left (by rw [← h1.1]; exact hi)] at e2
    exact h1.2 i t l e1 e2
  · rw [List.getElem?_append_right (by omega)] at e1
    rw [List.getElem?_append_right (by rw [← h1.1]; omega), ← h1.1] at e2
    exact h2.2 _ t l e1 e2
theorem Rows.take {H : Hp} {as : List Addr} {L : List (List V)} (h : Rows H as L) (n : Nat) : Rows H (as.take n) (L.take n) := by
  refine ⟨by rw [List.length_take, List.length_take, h.1], fun i t l e1 e2 => ?_⟩
  have hi : i < n := by
    have := (List.getElem?_eq_some_iff.mp e1).1
    rw [List.length_take] at this
    omega
  rw [List.getElem?_take_of_lt hi] at e1 e2
  exact h.2 i t l e1 e2
theorem Rows.drop {H : Hp} {as : List Addr} {L : List (List V)} (h : Rows H as L) (n : Nat) : Rows H (as.drop n) (L.drop n) := by
  refine ⟨by rw [List.length_drop, List.length_drop, h.1], fun i t l e1 e2 => ?_⟩
  rw [List.getElem?_drop] at e1 e2
  exact h.2 _ t l e1 e2
theorem Rows.two {H : Hp} {x y : Addr} {l m : List V} (h1 : H x = some (.lst l)) (h2 : H y = some (.lst m)) : Rows H [x, y] [l, m] := ⟨rfl, fun i t z e1 e2 => by
  match i, e1, e2 with
  | 0, e1, e2 => cases e1; cases e2; exact h1
  | 1, e1, e2 => cases e1; cases e2; exact h2
  | i + 2, e1, e2 => simp at e1⟩
theorem cut_to (xs : List V) (i : Nat) : cutV xs none (some ((i : Nat) : Int)) = xs.take i := by
  unfold cutV
  rw [HT.sIx_none, HT.sIx_nat, List.drop_zero, Nat.sub_zero]
  by_cases h : i ≤ xs.length
  · rw [Nat.min_eq_left h]
  · rw [Nat.min_eq_right (by omega), List.take_length, List.take_of_length_le (by omega)]
theorem cut_fromV (xs : List V) (i : Nat) : cutV xs (some ((i : Nat) : Int)) none = xs.drop i := by
  unfold cutV
  rw [HT.sIx_none, HT.sIx_nat]
  by_cases h : i ≤ xs.length
  · rw [Nat.min_eq_left h]
    exact List.take_of_length_le (by rw [List.length_drop]; exact Nat.le_refl _)
  · rw [Nat.min_eq_right (by omega), List.drop_eq_nil_of_le (Nat.le_refl _), List.drop_eq_nil_of_le (by omega), List.take_nil]
/-! ### can_be_done_to_the_same -/
def evRows (el : List Vbenai.Event) : List (List V) := el.map fun e => (Vbenai.eventRow e).map V.int
def spCan (C : Addr) : Sp := fun vs H Q _ => ∃ (a b : Addr) (A : Ad) (s : Vbenai.State) (xs : List Addr) (el : List Vbenai.Event), vs = [.ref a, .ref b] ∧ RoomAt C H a A s.room s.log ∧ SInv s ∧ H b = some (.lst (xs.map V.ref)) ∧ Rows H xs (evRows el) ∧ xs.Nodup ∧ el.length ≤ 120 ∧
  (∀ e ∈ el, EvOk s.room.trays.length s.room.hands.length e) ∧ ∀ H', Same H H' → Q (.bl (Vbenai.played s.base el == some s.room)) H'
section
variable {P : Program} {w : World} {K : PySem.W.Frag} {mg : Str → Option Value} {base : Heap} {C : Addr}
theorem sc_can_be_done_to_the_same : FnScope ["room", "steps", "other", "step"] ["room", "steps"] (defScope (top 39)) := ⟨rfl, rfl, rfl, by decide +kernel, rfl, by decide +kernel, by decide +kernel⟩
theorem g_can_be_done (D : DefAt K mg "can_be_done_to_the_same" (top 39)) (T : Txt K mg C) (mk_Room : MkG P w K mg base C "Room" 2 ["self", "trays", "clerks"] (spInit C)) (g_do_step : FnG P w K mg base "do_step" 4 ["room", "step"] (spDo C)) (g_all_it_holds : FnG P w K mg base "all_it_holds" 1 ["room"] (spHolds K C)) :
    FnG P w K mg base "can_be_done_to_the_same" 5 ["room", "steps"] (spCan C) := by
  refine D.fn sc_can_be_done_to_the_same (fun _ _ _ _ _ _ us hl => match us, hl with | [_, _], _ => rfl) (fun vs H Q E h => ?_) (fun f cdv Ar outer s0 H vs Q E hr h => ?_)
  · obtain ⟨_, _, _, _, _, _, rfl, _⟩ := h
    rfl
  · obtain ⟨a, b, A, s, xs, el, rfl, R, S, hb, hrows, ndx, ell, hev, k⟩ := h
    have hr1 := hr.mono (show 1 ≤ 4 by decide)
    have hr3 := hr.mono (show 3 ≤ 4 by decide)
    refine ⟨_, pss_cons (ps_set (i := 2) sc_can_be_done_to_the_same.nd rfl (Or.inl rfl) (pe_mk mk_Room hr3 (pa_cons (pe_callB call_len_seq (by rfl) T.len PySem.boot_len (pa_cons (pe_fld (pv 0) rfl) pa_nil)) (pa_cons (pe_callB call_len_seq (by rfl) T.len PySem.boot_len (pa_cons (pe_fld (pv 0) rfl) pa_nil)) pa_nil))))
      (pss_cons (ps_for PassesOwn.never rfl (pi_list (pv 1)) (pg_name (i := 3) sc_can_be_done_to_the_same.nd rfl (Or.inl rfl)) (pss_one (ps_expr (pe_fn g_do_step hr (pa_cons (pv 2) (pa_cons (pv 3) pa_nil))))))
      (pss_one (ps_ret (pe_and (pe_cmpR op_eq (pe_callB call_len_seq (by rfl) T.len PySem.boot_len (pa_cons (pe_fld (pv 2) rfl) pa_nil)) (pe_callB call_len_seq (by rfl) T.len PySem.boot_len (pa_cons (pv 1) pa_nil)) (nomark _)) (pe_one (pe_cmpR (op_eqD hr.units) (pe_fn g_all_it_holds hr1 (pa_cons (pv 2) pa_nil)) (pe_fn g_all_it_holds hr1 (pa_cons (pv 0) pa_nil)) (nomark _))))))), ?_⟩
    have tl : A.ts.length = s.room.trays.length := by have := R.tt.1; rw [List.length_map] at this; exact this
    have hdl : A.hs.length = s.room.hands.length := by have := R.hh.1; rw [List.length_map] at this; exact this
    have xl : xs.length = el.length := by have := hrows.1; unfold evRows at this; rw [List.length_map] at this; exact this
    have htr := S.rm.tr
    have hhd := S.rm.hd
    -- other = Room(len(room.trays), len(room.hands))
    refine e_asg ?_
    refine va_cons (v_len (val_fld (val_var rfl) R.ob T.cl T.nTrays (f_trays A)) R.dt) (va_1 (v_len (val_fld (val_var rfl) R.ob T.cl T.nHands (f_hands A)) R.dh)) _ ?_
    rw [len_refs, len_refs, tl, hdl]
    intro x dx nx ndx' nex
    refine ⟨x, dx, (s.room.trays.length : Int), (s.room.hands.length : Int), rfl, upd_same, by omega, by omega, by omega, by omega, fun H1 A1 R1 _ kp1 nw1 => ⟨rfl, ?_⟩⟩
    rw [Int.toNat_natCast, Int.toNat_natCast] at R1
    have s0' : Same H (upd (upd H dx (.own x)) x (.ins C dx [])) := fun b o e => by
      rw [upd_ne (ne_of_none e nx)]
      rw [upd_ne (ne_of_none e ndx')]
      exact e
    generalize upd (upd H dx (.own x)) x (.ins C dx []) = H0 at s0' kp1 nw1
    have N0 : New1 C H0 x xs 0 H1 A1 (Vbenai.fresh s.room.trays.length s.room.hands.length) [] := ⟨R1, kp1, fun b hb => nw1 b (mut_own hb), fun b hb => .inl (nw1 b hb)⟩
    have nx' : ∀ {y : Addr} {o : HO}, H y = some o → y ≠ x := fun h => ne_of_none h nx
    have sm : ∀ {i : Nat} {H' : Hp} {A' : Ad} {r' : Vbenai.Room} {lg : List Vbenai.Event}, New1 C H0 x xs i H' A' r' lg → Same H H' := fun N b o h => N.kp b o (s0' _ _ h) (nx' h)
    have hbase := S.bs
    have hfr := fresh_inv S.rm.tr S.rm.hd
    -- for step in steps: do_step(other, step)
    refine ⟨_, rfl, b, rfl, ⟨_, SqL.of (sm N0 _ _ hb)⟩, ?_⟩
    refine for_list (K := K) (a := b) (xs := xs.map V.ref) (fun i σ H' => ∃ (v3 : Option V) (A' : Ad) (r' : Vbenai.Room) (lg : List Vbenai.Event), σ = [some (.ref a), some (.ref b), some (.ref x), v3] ∧ New1 C H0 x xs i H' A' r' lg ∧ RInv r' ∧ r'.trays.length = s.room.trays.length ∧ r'.hands.length = s.room.hands.length ∧
        ((lg = el.take i ∧ Vbenai.played s.base (el.take i) = some r') ∨ (Vbenai.played s.base el = none ∧ lg.length < i)))
      ⟨none, A1, _, [], rfl, N0, hfr, by simp [Vbenai.fresh], by simp [Vbenai.fresh], .inl ⟨rfl, by rw [hbase]; rfl⟩⟩ (fun i σ H' _ ⟨_, _, _, _, _, N, _⟩ => SqL.of (sm N _ _ hb)) ?_ ?_
    · rintro i y σ H3 hi ⟨v3, A3, r3, lg, rfl, N3, I3, t3, c3, hcase⟩
      obtain ⟨c, hc, rfl⟩ := refs_inv hi
      have hil : i < el.length := by rw [← xl]; exact (List.getElem?_eq_some_iff.mp hc).1
      obtain ⟨e, he⟩ : ∃ e, el[i]? = some e := ⟨_, List.getElem?_eq_getElem hil⟩
      have hrow := hrows.2 i c ((Vbenai.eventRow e).map V.int) hc (by unfold evRows; rw [List.getElem?_map, he]; rfl)
      have nin := N3.notin ndx hc (s0' _ _ hrow) (nx' hrow)
      have hevo : EvOk r3.trays.length r3.hands.length e := by rw [t3, c3]; exact hev e (List.mem_of_getElem? he)
      have lgl : lg.length ≤ i := by
        rcases hcase with ⟨q, _⟩ | ⟨_, q⟩
        · rw [q, List.length_take]; omega
        · omega
      refine e_drop1 ?_
      refine ⟨_, rfl, _, rfl, x, c, A3, r3, lg, Vbenai.eventRow e, e, true, rfl, N3.rm, I3, by omega, sm N3 _ _ hrow, nin, evOf_row hevo, fun q H4 A4 R4 F4 _ _ _ => ?_⟩
      cases hst : Vbenai.stepped r3 e with
      | error n =>
        rw [stepDue_err hst] at R4
        refine ⟨_, A4, r3, lg, rfl, N3.step hc R4 F4, I3, t3, c3, .inr ⟨?_, by omega⟩⟩
        rcases hcase with ⟨_, q⟩ | ⟨q, _⟩
        · exact played_stop q he hst
        · exact q
      | ok u4 =>
        rw [stepDue_ok hst (by omega)] at R4
        obtain ⟨I4, t4, c4⟩ := stepped_inv I3 hevo hst
        refine ⟨_, A4, u4, lg ++ [e], rfl, N3.step hc R4 F4, I4, t4.trans t3, c4.trans c3, ?_⟩
        rcases hcase with ⟨q1, q2⟩ | ⟨q1, q2⟩
        · refine .inl ⟨?_, ?_⟩
          · rw [q1, List.take_add_one, he]; rfl
          · rw [played_next q2 he, hst]
        · refine .inr ⟨q1, ?_⟩
          rw [List.length_append]
          simp
          omega
    · rintro σ H3 ⟨v3, A3, r3, lg, rfl, N3, I3, t3, c3, hcase⟩
      rw [len_refs, xl] at hcase
      have R3 := N3.rm
      have jl3 : A3.js.length = lg.length := by have := R3.jj.1; rw [List.length_map] at this; exact this
      have s3 := sm N3
      dsimp only
      refine e_ret (e_andV (e_op ?_))
      refine v_len (K := K) (te := tFld K (tVar 2) "journal") (val_fld (val_var rfl) R3.ob T.cl T.nJournal (f_journal A3)) R3.dj _ ?_
      refine v_len (K := K) (te := tVar 1) (val_var rfl) (s3 _ _ hb) _ ?_
      refine r_eqI ⟨_, rfl, ?_⟩
      rw [len_refs, len_refs, jl3, xl]
      rcases hcase with ⟨q1, q2⟩ | ⟨q1, q2⟩
      · rw [List.take_length] at q1 q2
        rw [q1, decide_eq_true rfl]
        refine iteT ?_
        refine e_op ?_
        refine e_call (va_1 (val_var rfl)) ⟨x, A3, r3, lg, rfl, R3, fun H4 p4 s4 d4 => ?_⟩
        refine e_call (va_1 (val_var rfl)) ⟨a, A, s.room, s.log, rfl, R.same (s3.trans s4), fun H5 p5 s5 d5 => ?_⟩
        refine ⟨roomD r3, roomD s.room, d4 H5 s5, d5 H5 (Same.refl H5), room_shaped _, room_shaped _, ?_⟩
        have e : PyData.eqv (roomD r3) (roomD s.room) = (Vbenai.played s.base el == some s.room) := by
          rw [room_eqv, q2, Bool.eq_iff_iff]
          simp
        rw [e]
        exact k H5 ((s3.trans s4).trans s5)
      · rw [decide_eq_false (by omega)]
        refine iteF ?_
        have e : (Vbenai.played s.base el == some s.room) = false := by
          rw [q1]
          rfl
        rw [e] at k
        exact k H3 s3
/-! ### try_exchange -/
def spExch (C : Addr) : Sp := fun vs H Q _ => ∃ (a : Addr) (A : Ad) (s : Vbenai.State) (i : Int), vs = [.ref a, .int i] ∧ RoomAt C H a A s.room s.log ∧ SInv s ∧
  NewL H ((if isBetween i 0 ((s.log.length : Int) - 2) = false then [-1] else [if Vbenai.mayExchange s i.toNat = true then 1 else 0]).map V.int) Q
theorem sc_try_exchange : FnScope ["room", "i", "steps"] ["room", "i"] (defScope (top 40)) := ⟨rfl, rfl, rfl, by decide +kernel, rfl, by decide +kernel, by decide +kernel⟩
theorem g_try_exchange (D : DefAt K mg "try_exchange" (top 40)) (T : Txt K mg C) (g_can : FnG P w K mg base "can_be_done_to_the_same" 5 ["room", "steps"] (spCan C)) : FnG P w K mg base "try_exchange" 6 ["room", "i"] (spExch C) := by
  refine D.fn sc_try_exchange (fun _ _ _ _ _ _ us hl => match us, hl with | [_, _], _ => rfl) (fun vs H Q E h => ?_) (fun f cdv Ar outer s0 H vs Q E hr h => ?_)
  · obtain ⟨_, _, _, _, rfl, _⟩ := h
    rfl
  · obtain ⟨a, A, s, i, rfl, R, S, k⟩ := h
    refine ⟨_, pss_cons (ps_if (pt_not (pt_chain op_le op_le pe_int (pv 1) (pe_op op_sub (pe_callB call_len_seq (by rfl) T.len PySem.boot_len (pa_cons (pe_fld (pv 0) rfl) pa_nil)) pe_int))) (pss_one (ps_ret (pe_lst (pa_cons (pe_num (T.at_ 0 rfl)) pa_nil)))) pss_nil)
      (pss_cons (ps_set (i := 2) sc_try_exchange.nd rfl (Or.inl rfl) (pe_op op_cat (pe_op op_cat (pe_slice sl_list (pe_fld (pv 0) rfl) po_none (po_some (pv 1))) (pe_lst (pa_cons (pe_ix ix_list (pe_fld (pv 0) rfl) (pe_op op_add (pv 1) pe_int) (fun _ _ => rfl)) (pa_cons (pe_ix ix_list (pe_fld (pv 0) rfl) (pv 1) (fun _ _ => rfl)) pa_nil)))) (pe_slice sl_list (pe_fld (pv 0) rfl) (po_some (pe_op op_add (pv 1) pe_int)) po_none)))
      (pss_cons (ps_if (pt_val (pe_fn g_can hr (pa_cons (pv 0) (pa_cons (pv 2) pa_nil)))) (pss_one (ps_ret (pe_lst (pa_cons pe_int pa_nil)))) pss_nil)
      (pss_one (ps_ret (pe_lst (pa_cons pe_int pa_nil)))))), ?_⟩
    have jl : A.js.length = s.log.length := by have := R.jj.1; rw [List.length_map] at this; exact this
    have ejl : ((A.js.map V.ref).length : Int) - 2 = (s.log.length : Int) - 2 := by rw [len_refs, jl]
    have test : Ans (tNot (tTest (tChain (rI0 fun i j => .bl (decide (i ≤ j))) (rI0 fun i j => .bl (decide (i ≤ j))) (tC (.int 0)) (tVar 1) (tOp (rI0 fun i j => .int (i - j)) (tCB (fun xs H Q => ∃ p ys, xs = [.ref p] ∧ (SqL K H p ys ∨ SqT K H p ys) ∧ Q (.int ys.length) H) (tCons (tFld K (tVar 0) "journal") tNil)) (tC (.int 2)))))) [some (.ref a), some (.int i), none] H (!isBetween i 0 ((s.log.length : Int) - 2)) := by
      rw [← ejl]
      exact ans_not (ans_tt (val_btw val_c (val_var rfl) (val_I (v_len (val_fld (val_var rfl) R.ob T.cl T.nJournal (f_journal A)) R.dj) val_c)))
    refine sq_retLst test (va_1 val_c) (by show 1 ≤ 1000; decide) (fun e => ?_) (fun e => ?_)
    · rw [if_pos (not_t e)] at k
      exact k
    have ok := not_f e
    rw [if_neg (by rw [ok]; decide)] at k
    have ok := btw ok
    obtain ⟨i, rfl⟩ := nat_of ok.1
    rw [Int.toNat_natCast] at k
    have hi : i + 1 < s.log.length := by omega
    obtain ⟨ex, hex⟩ : ∃ e, s.log[i]? = some e := ⟨_, List.getElem?_eq_getElem (by omega)⟩
    obtain ⟨ey, hey⟩ : ∃ e, s.log[i + 1]? = some e := ⟨_, List.getElem?_eq_getElem hi⟩
    obtain ⟨x, hx⟩ : ∃ x, A.js[i]? = some x := ⟨_, List.getElem?_eq_getElem (by omega)⟩
    obtain ⟨y, hy⟩ : ∃ y, A.js[i + 1]? = some y := ⟨_, List.getElem?_eq_getElem (by omega)⟩
    have hll := S.ll
    have ndj : A.js.Nodup := by
      have z := (List.nodup_cons.mp R.nd).2
      unfold Ad.own at z
      exact (List.nodup_append.mp (List.nodup_append.mp (List.nodup_append.mp z).2.1).2.1).2.1
    -- steps
    refine e_asg (e_op (e_op ?_))
    refine ⟨_, rfl, a, C, _, _, _, rfl, R.ob, T.cl, T.nJournal, f_journal A, _, rfl, (i : Int), rfl, A.jd, _, rfl, SqL.of R.dj, fun p1 hp1 => ?_⟩
    rw [cut_to, ← List.map_take]
    have s1 : Same H (upd H p1 (.lst ((A.js.take i).map V.ref))) := same_new hp1
    have h1 : upd H p1 (.lst ((A.js.take i).map V.ref)) p1 = some (.lst ((A.js.take i).map V.ref)) := upd_same
    generalize upd H p1 (.lst ((A.js.take i).map V.ref)) = H1 at s1 h1
    have R1 := R.same s1
    refine va_cons (val_ixL (K := K) (j := i + 1) (val_fld (val_var rfl) R1.ob T.cl T.nJournal (f_journal A)) (val_I (i := (i : Int)) (j := 1) (val_var rfl) val_c) (SqL.of R1.dj) rfl (v_ref_get hy)) (va_1 (val_ixL (K := K) (j := i) (val_fld (val_var rfl) R1.ob T.cl T.nJournal (f_journal A)) (val_var rfl) (SqL.of R1.dj) rfl (v_ref_get hx))) _ ?_
    refine ⟨(by show 2 ≤ sizeLine; decide), fun p2 hp2 => ?_⟩
    have s2 : Same H1 (upd H1 p2 (.lst [.ref y, .ref x])) := same_new hp2
    have h2 : upd H1 p2 (.lst [.ref y, .ref x]) p2 = some (.lst [.ref y, .ref x]) := upd_same
    generalize upd H1 p2 (.lst [.ref y, .ref x]) = H2 at s2 h2
    refine ⟨p1, p2, _, _, rfl, rfl, s2 _ _ h1, h2, ?_, fun p3 hp3 => ?_⟩
    · rw [len_refs, List.length_take]
      exact Nat.le_trans (show min i A.js.length + 2 ≤ 1000 by omega) (by decide)
    have s3 : Same H2 (upd H2 p3 (.lst ((A.js.take i).map V.ref ++ [.ref y, .ref x]))) := same_new hp3
    have h3 : upd H2 p3 (.lst ((A.js.take i).map V.ref ++ [.ref y, .ref x])) p3 = some (.lst ((A.js.take i).map V.ref ++ [.ref y, .ref x])) := upd_same
    generalize upd H2 p3 (.lst ((A.js.take i).map V.ref ++ [.ref y, .ref x])) = H3 at s3 h3
    have R3 := (R1.same s2).same s3
    refine ⟨_, rfl, a, C, _, _, _, rfl, R3.ob, T.cl, T.nJournal, f_journal A, _, rfl, _, _, rfl, rfl, (i : Int) + 2, rfl, A.jd, _, rfl, SqL.of R3.dj, fun p4 hp4 => ?_⟩
    have ecut : cutV (A.js.map V.ref) (some ((i : Int) + 2)) none = (A.js.drop (i + 2)).map V.ref := by
      have := cut_fromV (A.js.map V.ref) (i + 2)
      rw [← List.map_drop] at this
      exact this
    rw [ecut]
    have s4 : Same H3 (upd H3 p4 (.lst ((A.js.drop (i + 2)).map V.ref))) := same_new hp4
    have h4 : upd H3 p4 (.lst ((A.js.drop (i + 2)).map V.ref)) p4 = some (.lst ((A.js.drop (i + 2)).map V.ref)) := upd_same
    generalize upd H3 p4 (.lst ((A.js.drop (i + 2)).map V.ref)) = H4 at s4 h4
    refine ⟨p3, p4, _, _, rfl, rfl, s4 _ _ h3, h4, ?_, fun p5 hp5 => ?_⟩
    · rw [List.length_append, len_refs, len_refs, List.length_take, List.length_drop]
      exact Nat.le_trans (show min i A.js.length + 2 + (A.js.length - (i + 2)) ≤ 1000 by omega) (by decide)
    have el5 : (A.js.take i).map V.ref ++ [V.ref y, V.ref x] ++ (A.js.drop (i + 2)).map V.ref = (A.js.take i ++ ([y, x] ++ A.js.drop (i + 2))).map V.ref := by
      rw [List.map_append, List.map_append, List.append_assoc]
      rfl
    rw [el5]
    have s5 : Same H4 (upd H4 p5 (.lst ((A.js.take i ++ ([y, x] ++ A.js.drop (i + 2))).map V.ref))) := same_new hp5
    have h5 : upd H4 p5 (.lst ((A.js.take i ++ ([y, x] ++ A.js.drop (i + 2))).map V.ref)) p5 = some (.lst ((A.js.take i ++ ([y, x] ++ A.js.drop (i + 2))).map V.ref)) := upd_same
    generalize upd H4 p5 (.lst ((A.js.take i ++ ([y, x] ++ A.js.drop (i + 2))).map V.ref)) = H5 at s5 h5
    have s05 : Same H H5 := (((s1.trans s2).trans s3).trans s4).trans s5
    have R5 := R.same s05
    have ejs : A.js = A.js.take i ++ ([x, y] ++ A.js.drop (i + 2)) := by
      obtain ⟨a1, e1⟩ := List.getElem?_eq_some_iff.mp hx
      obtain ⟨a2, e2⟩ := List.getElem?_eq_some_iff.mp hy
      conv => lhs; rw [← List.take_append_drop i A.js]
      rw [List.drop_eq_getElem_cons a1, e1, List.drop_eq_getElem_cons a2, e2]
      rfl
    have elog : s.log = s.log.take i ++ ([ex, ey] ++ s.log.drop (i + 2)) := by
      obtain ⟨a1, e1⟩ := List.getElem?_eq_some_iff.mp hex
      obtain ⟨a2, e2⟩ := List.getElem?_eq_some_iff.mp hey
      conv => lhs; rw [← List.take_append_drop i s.log]
      rw [List.drop_eq_getElem_cons a1, e1, List.drop_eq_getElem_cons a2, e2]
      rfl
    have eexc : Vbenai.exchanged s.log i = s.log.take i ++ ([ey, ex] ++ s.log.drop (i + 2)) := exchanged_at hex hey
    have perm : (A.js.take i ++ ([y, x] ++ A.js.drop (i + 2))).Perm A.js := by
      conv => rhs; rw [ejs]
      exact List.Perm.append_left _ (List.Perm.swap x y _)
    have permE : (Vbenai.exchanged s.log i).Perm s.log := by
      rw [eexc]
      conv => rhs; rw [elog]
      exact List.Perm.append_left _ (List.Perm.swap ex ey _)
    have rows5 : Rows H5 (A.js.take i ++ ([y, x] ++ A.js.drop (i + 2))) (evRows (Vbenai.exchanged s.log i)) := by
      rw [eexc]
      unfold evRows
      rw [List.map_append, List.map_append, List.map_take, List.map_drop]
      have hxr := R5.jj.2 i x ((Vbenai.eventRow ex).map V.int) hx (by rw [List.getElem?_map, hex]; rfl)
      have hyr := R5.jj.2 (i + 1) y ((Vbenai.eventRow ey).map V.int) hy (by rw [List.getElem?_map, hey]; rfl)
      exact (R5.jj.take i).app ((Rows.two hyr hxr).app (R5.jj.drop (i + 2)))
    -- if can_be_done_to_the_same(room, steps)
    refine sqS_retLst (b := Vbenai.mayExchange s i) (vs := [.int 1]) ?_ (fun H' s' => va_1 val_c) (by show 1 ≤ 1000; decide) (fun e => ?_) (fun e H6 s6 => ?_)
    · intro Q2 q2
      refine ⟨_, rfl, _, rfl, a, p5, A, s, _, Vbenai.exchanged s.log i, rfl, R5, S, h5, rows5, perm.nodup_iff.mpr ndj, ?_, fun e he => S.ev e (permE.mem_iff.mp he), fun H' s' => ⟨_, rfl, q2 H' s'⟩⟩
      rw [permE.length_eq]
      exact hll
    · rw [if_pos e] at k
      exact NewL.back k s05
    · rw [if_neg (by rw [e]; decide)] at k
      exact st_retLst (va_1 val_c) (by show 1 ≤ 1000; decide) (NewL.back k (s05.trans s6))
/-! ### answer_of_journal -/
def spJour (C : Addr) : Sp := fun vs H Q _ => ∃ (a b : Addr) (A : Ad) (s : Vbenai.State) (row : List Int), vs = [.ref a, .ref b] ∧ RoomAt C H a A s.room s.log ∧ SInv s ∧ H b = some (.lst (row.map V.int)) ∧ (row = [18] ∨ row = [19] ∨ ∃ i, row = [20, i]) ∧ AnsR C a A (Vbenai.step s [row]).1 (Vbenai.step s [row]).2 H Q
theorem sc_answer_of_journal : FnScope ["room", "call", "number"] ["room", "call"] (defScope (top 41)) := ⟨rfl, rfl, rfl, by decide +kernel, rfl, by decide +kernel, by decide +kernel⟩
theorem g_answer_of_journal (D : DefAt K mg "answer_of_journal" (top 41)) (g_tell_log : FnG P w K mg base "tell_log" 2 ["room"] (spLog C)) (g_undo_step : FnG P w K mg base "undo_step" 5 ["room"] (spUndo C)) (g_try_exchange : FnG P w K mg base "try_exchange" 6 ["room", "i"] (spExch C)) :
    FnG P w K mg base "answer_of_journal" 7 ["room", "call"] (spJour C) := by
  refine D.fn sc_answer_of_journal (fun _ _ _ _ _ _ us hl => match us, hl with | [_, _], _ => rfl) (fun vs H Q E h => ?_) (fun f cdv Ar outer s0 H vs Q E hr h => ?_)
  · obtain ⟨_, _, _, _, _, rfl, _⟩ := h
    rfl
  · obtain ⟨a, b, A, s, row, rfl, R, S, hb, hrow, k⟩ := h
    refine ⟨_, pss_cons (ps_set (i := 2) sc_answer_of_journal.nd rfl (Or.inl rfl) (pe_ix ix_list (pv 1) pe_int (fun _ _ => rfl)))
      (pss_cons (ps_if (pt_cmpR op_eq (pv 2) pe_int (nomark _)) (pss_one (ps_ret (pe_fn g_tell_log (hr.mono (by decide)) (pa_cons (pv 0) pa_nil)))) pss_nil)
      (pss_cons (ps_if (pt_cmpR op_eq (pv 2) pe_int (nomark _)) (pss_one (ps_ret (pe_fn g_undo_step (hr.mono (by decide)) (pa_cons (pv 0) pa_nil)))) pss_nil)
      (pss_one (ps_ret (pe_fn g_try_exchange hr (pa_cons (pv 0) (pa_cons (pe_ix ix_list (pv 1) pe_int (fun _ _ => rfl)) pa_nil))))))), ?_⟩
    have no : ∀ (x y : Int) {t1 tz : TS} {D : Ends}, x ≠ y → tz D [some (.ref a), some (.ref b), some (.int x)] H → tSeq (tIfS (tTest (tOp rEq (tVar 2) (tC (.int y)))) t1 tNext) tz D [some (.ref a), some (.ref b), some (.int x)] H := fun x y _ _ _ n k =>
      sq_no ((a_eq (val_var rfl) val_c).to (decide_eq_false n)) k
    have yes : ∀ (x : Int) {sp : Sp} {t : TA} {vs : List V} {tz : TS} {D : Ends}, ValA t [some (.ref a), some (.ref b), some (.int x)] H vs → sp (vs ++ []) H D.rt E0 → tSeq (tIfS (tTest (tOp rEq (tVar 2) (tC (.int x)))) (tRet (tCall sp [] E0 t)) tNext) tz D [some (.ref a), some (.ref b), some (.int x)] H := fun x _ _ _ _ _ h k =>
      sq_yes ((a_eq (val_var rfl) val_c).to (decide_eq_true rfl)) (st_retc h k)
    refine e_asg ?_
    rcases hrow with rfl | rfl | ⟨i, rfl⟩
    · refine v_at (K := K) 0 (val_var rfl) hb rfl _ ?_
      rw [due_log] at k
      exact yes 18 (va_1 (val_var rfl)) ⟨a, A, s.room, s.log, rfl, R, S.ll, k.new R⟩
    · refine v_at (K := K) 0 (val_var rfl) hb rfl _ ?_
      refine no _ _ (by decide) ?_
      exact yes 19 (va_1 (val_var rfl)) ⟨a, A, s, rfl, R, S, k⟩
    · refine v_at (K := K) 0 (val_var rfl) hb rfl _ ?_
      refine no _ _ (by decide) (no _ _ (by decide) ?_)
      rw [due_exchange] at k
      exact st_retc (va_cons (val_var rfl) (va_1 (v_at 1 (val_var rfl) hb rfl))) ⟨a, A, s, i, rfl, R, S, k.new R⟩
end
end Cc

set_option Elab.async false
set_option linter.all false
set_option maxRecDepth 100000
set_option maxHeartbeats 4000000
namespace Cc
open PySem PySem.Spec PyProof.Rows L2
open VbenCore (isBetween)

/-! ### which call it is -/
def OrdRow (row : List Int) : Prop := row = [12] ∨ row = [13] ∨ row = [14] ∨ ∃ t, row = [15, t]
def JourRow (row : List Int) : Prop := row = [18] ∨ row = [19] ∨ ∃ i, row = [20, i]
def QuestC (c : List (List Int)) : Prop := (∃ n, c = [[8, n]]) ∨ (∃ t, c = [[9, t]]) ∨ (∃ k, c = [[10, k]]) ∨ (∃ t lo hi, c = [[11, t, lo, hi]]) ∨ c = [[16]] ∨ (∃ t l, c = [[17, t], l]) ∨ c = [[21]] ∨ c = [[22]]
theorem told_cases {c : List (List Int)} (h : Told c) : (∃ t k, c = [[0, t, k]]) ∨ (∃ x xs, c = [x :: xs] ∧ 1 ≤ x ∧ x ≤ 7 ∧ ∀ r, (evOf r (x :: xs)).isSome = true) ∨ (∃ row, c = [row] ∧ OrdRow row) ∨ (∃ row, c = [row] ∧ JourRow row) ∨ c = [[23]] ∨ QuestC c := by
  obtain ⟨p, n, k, xs, rows, sh, hx, hr, rfl⟩ := h
  obtain ⟨p0, p23, hk, htab⟩ := shape_some sh
  have hp : p = 0 ∨ p = 1 ∨ p = 2 ∨ p = 3 ∨ p = 4 ∨ p = 5 ∨ p = 6 ∨ p = 7 ∨ p = 8 ∨ p = 9 ∨ p = 10 ∨ p = 11 ∨ p = 12 ∨ p = 13 ∨ p = 14 ∨ p = 15 ∨ p = 16 ∨ p = 17 ∨ p = 18 ∨ p = 19 ∨ p = 20 ∨ p = 21 ∨ p = 22 ∨ p = 23 := by omega
  rcases hp with rfl | rfl | rfl | rfl | rfl | rfl | rfl | rfl | rfl | rfl | rfl | rfl | rfl | rfl | rfl | rfl | rfl | rfl | rfl | rfl | rfl | rfl | rfl | rfl
  · cases htab
    match xs, hx, rows, (show rows.length = 0 from hr.trans hk) with
    | [a, b], _, [], _ => exact .inl ⟨a, b, rfl⟩
  · cases htab
    match xs, hx, rows, (show rows.length = 0 from hr.trans hk) with
    | [a, b, c], _, [], _ => exact .inr (.inl ⟨_, _, rfl, by decide, by decide, fun r => rfl⟩)
  · cases htab
    match xs, hx, rows, (show rows.length = 0 from hr.trans hk) with
    | [a, b, c], _, [], _ => exact .inr (.inl ⟨_, _, rfl, by decide, by decide, fun r => rfl⟩)
  · cases htab
    match xs, hx, rows, (show rows.length = 0 from hr.trans hk) with
    | [a, b, c, d], _, [], _ => exact .inr (.inl ⟨_, _, rfl, by decide, by decide, fun r => rfl⟩)
  · cases htab
    match xs, hx, rows, (show rows.length = 0 from hr.trans hk) with
    | [a, b, c], _, [], _ => exact .inr (.inl ⟨_, _, rfl, by decide, by decide, fun r => rfl⟩)
  · cases htab
    match xs, hx, rows, (show rows.length = 0 from hr.trans hk) with
    | [a, b], _, [], _ => exact .inr (.inl ⟨_, _, rfl, by decide, by decide, fun r => rfl⟩)
  · cases htab
    match xs, hx, rows, (show rows.length = 0 from hr.trans hk) with
    | [a], _, [], _ => exact .inr (.inl ⟨_, _, rfl, by decide, by decide, fun r => rfl⟩)
  · cases htab
    match xs, hx, rows, (show rows.length = 0 from hr.trans hk) with
    | [a, b], _, [], _ => exact .inr (.inl ⟨_, _, rfl, by decide, by decide, fun r => rfl⟩)
  · cases htab
    match xs, hx, rows, (show rows.length = 0 from hr.trans hk) with
    | [a], _, [], _ => exact .inr (.inr (.inr (.inr (.inr (.inl ⟨a, rfl⟩)))))
  · cases htab
    match xs, hx, rows, (show rows.length = 0 from hr.trans hk) with
    | [a], _, [], _ => exact .inr (.inr (.inr (.inr (.inr (.inr (.inl ⟨a, rfl⟩))))))
  · cases htab
    match xs, hx, rows, (show rows.length = 0 from hr.trans hk) with
    | [a], _, [], _ => exact .inr (.inr (.inr (.inr (.inr (.inr (.inr (.inl ⟨a, rfl⟩)))))))
  · cases htab
    match xs, hx, rows, (show rows.length = 0 from hr.trans hk) with
    | [a, b, c], _, [], _ => exact .inr (.inr (.inr (.inr (.inr (.inr (.inr (.inr (.inl ⟨a, b, c, rfl⟩))))))))
  · cases htab
    match xs, hx, rows, (show rows.length = 0 from hr.trans hk) with
    | [], _, [], _ => exact .inr (.inr (.inl ⟨_, rfl, .inl rfl⟩))
  · cases htab
    match xs, hx, rows, (show rows.length = 0 from hr.trans hk) with
    | [], _, [], _ => exact .inr (.inr (.inl ⟨_, rfl, .inr (.inl rfl)⟩))
  · cases htab
    match xs, hx, rows, (show rows.length = 0 from hr.trans hk) with
    | [], _, [], _ => exact .inr (.inr (.inl ⟨_, rfl, .inr (.inr (.inl rfl))⟩))
  · cases htab
    match xs, hx, rows, (show rows.length = 0 from hr.trans hk) with
    | [a], _, [], _ => exact .inr (.inr (.inl ⟨_, rfl, .inr (.inr (.inr ⟨a, rfl⟩))⟩))
  · cases htab
    match xs, hx, rows, (show rows.length = 0 from hr.trans hk) with
    | [], _, [], _ => exact .inr (.inr (.inr (.inr (.inr (.inr (.inr (.inr (.inr (.inl rfl)))))))))
  · cases htab
    match xs, hx, rows, (show rows.length = 1 from hr.trans hk) with
    | [a], _, [row], _ => exact .inr (.inr (.inr (.inr (.inr (.inr (.inr (.inr (.inr (.inr (.inl ⟨a, row, rfl⟩))))))))))
  · cases htab
    match xs, hx, rows, (show rows.length = 0 from hr.trans hk) with
    | [], _, [], _ => exact .inr (.inr (.inr (.inl ⟨_, rfl, .inl rfl⟩)))
  · cases htab
    match xs, hx, rows, (show rows.length = 0 from hr.trans hk) with
    | [], _, [], _ => exact .inr (.inr (.inr (.inl ⟨_, rfl, .inr (.inl rfl)⟩)))
  · cases htab
    match xs, hx, rows, (show rows.length = 0 from hr.trans hk) with
    | [a], _, [], _ => exact .inr (.inr (.inr (.inl ⟨_, rfl, .inr (.inr ⟨a, rfl⟩)⟩)))
  · cases htab
    match xs, hx, rows, (show rows.length = 0 from hr.trans hk) with
    | [], _, [], _ => exact .inr (.inr (.inr (.inr (.inr (.inr (.inr (.inr (.inr (.inr (.inr (.inl rfl)))))))))))
  · cases htab
    match xs, hx, rows, (show rows.length = 0 from hr.trans hk) with
    | [], _, [], _ => exact .inr (.inr (.inr (.inr (.inr (.inr (.inr (.inr (.inr (.inr (.inr (.inr rfl)))))))))))
  · cases htab
    match xs, hx, rows, (show rows.length = 0 from hr.trans hk) with
    | [], _, [], _ => exact .inr (.inr (.inr (.inr (.inl rfl))))
theorem quest_same {c : List (List Int)} (h : QuestC c) (s : Vbenai.State) : (Vbenai.step s c).1 = s := by
  rcases h with ⟨n, rfl⟩ | ⟨t, rfl⟩ | ⟨k, rfl⟩ | ⟨t, lo, hi, rfl⟩ | rfl | ⟨t, l, rfl⟩ | rfl | rfl
  · rw [due_where]
  · rw [due_tray]
  · rw [due_hand]
  · rw [due_ask]
  · rw [due_doubles]
  · rw [due_inventory]
  · rw [due_counts]
  · rw [due_missing]
theorem ord_same {row : List Int} (h : OrdRow row) (s : Vbenai.State) : (Vbenai.step s [row]).1 = s := by
  rcases h with rfl | rfl | rfl | ⟨t, rfl⟩
  · rw [due_right]
  · rw [due_least]
  · rw [due_plan]
  · rw [due_staying]
def spOrd (C : Addr) : Sp := fun vs H Q _ => ∃ (a b : Addr) (A : Ad) (s : Vbenai.State) (row : List Int), vs = [.ref a, .ref b] ∧ RoomAt C H a A s.room s.log ∧ SInv s ∧ H b = some (.lst (row.map V.int)) ∧ OrdRow row ∧ NewL H ((Vbenai.step s [row]).2.map V.int) Q
def spQuest (C : Addr) : Sp := fun vs H Q _ => ∃ (a b : Addr) (A : Ad) (s : Vbenai.State) (c : List (List Int)), vs = [.ref a, .ref b] ∧ RoomAt C H a A s.room s.log ∧ SInv s ∧ H b = some (.lst ((flat c).map V.int)) ∧ QuestC c ∧ NewL H ((Vbenai.step s c).2.map V.int) Q
section
variable {a b : Addr} {H : Hp}
theorem sw_no (x y : Int) {t1 tz : TS} {D : Ends} (n : x ≠ y) (k : tz D [some (.ref a), some (.ref b), some (.int x)] H) : tSeq (tIfS (tTest (tOp rEq (tVar 2) (tC (.int y)))) t1 tNext) tz D [some (.ref a), some (.ref b), some (.int x)] H :=
  sq_no ((a_eq (val_var rfl) val_c).to (decide_eq_false n)) k
theorem sw_yes (x : Int) {sp : Sp} {t : TA} {vs : List V} {tz : TS} {D : Ends} (h : ValA t [some (.ref a), some (.ref b), some (.int x)] H vs) (k : sp (vs ++ []) H D.rt E0) : tSeq (tIfS (tTest (tOp rEq (tVar 2) (tC (.int x)))) (tRet (tCall sp [] E0 t)) tNext) tz D [some (.ref a), some (.ref b), some (.int x)] H :=
  sq_yes ((a_eq (val_var rfl) val_c).to (decide_eq_true rfl)) (st_retc h k)
end
section
variable {P : Program} {w : World} {K : PySem.W.Frag} {mg : Str → Option Value} {base : Heap} {C : Addr}
theorem sc_answer_of_order : FnScope ["room", "call", "number"] ["room", "call"] (defScope (top 54)) := ⟨rfl, rfl, rfl, by decide +kernel, rfl, by decide +kernel, by decide +kernel⟩
theorem g_answer_of_order (D : DefAt K mg "answer_of_order" (top 54)) (g_tell_right : FnG P w K mg base "tell_right" 3 ["room"] (spTellRight C)) (g_tell_least : FnG P w K mg base "tell_least" 6 ["room"] (spLeast C)) (g_tell_plan : FnG P w K mg base "tell_plan" 6 ["room"] (spPlan C))
    (g_tell_staying : FnG P w K mg base "tell_staying" 4 ["room", "t"] (spTellStay C)) : FnG P w K mg base "answer_of_order" 7 ["room", "call"] (spOrd C) := by
  refine D.fn sc_answer_of_order (fun _ _ _ _ _ _ us hl => match us, hl with | [_, _], _ => rfl) (fun vs H Q E h => ?_) (fun f cdv Ar outer s0 H vs Q E hr h => ?_)
  · obtain ⟨_, _, _, _, _, rfl, _⟩ := h
    rfl
  · obtain ⟨a, b, A, s, row, rfl, R, S, hb, hrow, k⟩ := h
    refine ⟨_, pss_cons (ps_set (i := 2) sc_answer_of_order.nd rfl (Or.inl rfl) (pe_ix ix_list (pv 1) pe_int (fun _ _ => rfl)))
      (pss_cons (ps_if (pt_cmpR op_eq (pv 2) pe_int (nomark _)) (pss_one (ps_ret (pe_fn g_tell_right (hr.mono (by decide)) (pa_cons (pv 0) pa_nil)))) pss_nil)
      (pss_cons (ps_if (pt_cmpR op_eq (pv 2) pe_int (nomark _)) (pss_one (ps_ret (pe_fn g_tell_least hr (pa_cons (pv 0) pa_nil)))) pss_nil)
      (pss_cons (ps_if (pt_cmpR op_eq (pv 2) pe_int (nomark _)) (pss_one (ps_ret (pe_fn g_tell_plan hr (pa_cons (pv 0) pa_nil)))) pss_nil)
      (pss_one (ps_ret (pe_fn g_tell_staying (hr.mono (by decide)) (pa_cons (pv 0) (pa_cons (pe_ix ix_list (pv 1) pe_int (fun _ _ => rfl)) pa_nil)))))))), ?_⟩
    refine e_asg ?_
    rcases hrow with rfl | rfl | rfl | ⟨t, rfl⟩
    · refine v_at (K := K) 0 (val_var rfl) hb rfl _ ?_
      rw [due_right] at k
      exact sw_yes 12 (va_1 (val_var rfl)) ⟨a, A, s.room, s.log, rfl, R, S.rm, k⟩
    · refine v_at (K := K) 0 (val_var rfl) hb rfl _ ?_
      rw [due_least] at k
      exact sw_no _ _ (by decide) (sw_yes 13 (va_1 (val_var rfl)) ⟨a, A, s.room, s.log, rfl, R, S.rm, k⟩)
    · refine v_at (K := K) 0 (val_var rfl) hb rfl _ ?_
      rw [due_plan] at k
      exact sw_no _ _ (by decide) (sw_no _ _ (by decide) (sw_yes 14 (va_1 (val_var rfl)) ⟨a, A, s.room, s.log, rfl, R, S.rm, k⟩))
    · refine v_at (K := K) 0 (val_var rfl) hb rfl _ ?_
      rw [due_staying] at k
      refine sw_no _ _ (by decide) (sw_no _ _ (by decide) (sw_no _ _ (by decide) ?_))
      exact st_retc (va_cons (val_var rfl) (va_1 (v_at 1 (val_var rfl) hb rfl))) ⟨a, A, s.room, s.log, t, rfl, R, S.rm, k⟩
theorem sc_answer_question : FnScope ["room", "call", "number"] ["room", "call"] (defScope (top 71)) := ⟨rfl, rfl, rfl, by decide +kernel, rfl, by decide +kernel, by decide +kernel⟩
theorem g_answer_question (D : DefAt K mg "answer_question" (top 71)) (g_where_is : FnG P w K mg base "where_is" 2 ["room", "n"] (spWhere C)) (g_show_tray : FnG P w K mg base "show_tray" 2 ["room", "t"] (spTray C)) (g_show_hand : FnG P w K mg base "show_hand" 2 ["room", "c"] (spHand C)) (g_ask_tray : FnG P w K mg base "ask_tray" 2 ["room", "t", "lo", "hi"] (spAsk C))
    (g_tell_doubles : FnG P w K mg base "tell_doubles" 2 ["room"] (spDoubles C)) (g_take_inventory : FnG P w K mg base "take_inventory" 3 ["room", "t", "seen"] (spInv C)) (g_tell_counts : FnG P w K mg base "tell_counts" 1 ["room"] (spCounts C)) (g_tell_missing : FnG P w K mg base "tell_missing" 2 ["room"] (spMissing C)) :
    FnG P w K mg base "answer_question" 4 ["room", "call"] (spQuest C) := by
  refine D.fn sc_answer_question (fun _ _ _ _ _ _ us hl => match us, hl with | [_, _], _ => rfl) (fun vs H Q E h => ?_) (fun f cdv Ar outer s0 H vs Q E hr h => ?_)
  · obtain ⟨_, _, _, _, _, rfl, _⟩ := h
    rfl
  · obtain ⟨a, b, A, s, c, rfl, R, S, hb, hc, k⟩ := h
    have hr2 := hr.mono (show 2 ≤ 3 by decide)
    have hr1 := hr.mono (show 1 ≤ 3 by decide)
    refine ⟨_, pss_cons (ps_set (i := 2) sc_answer_question.nd rfl (Or.inl rfl) (pe_ix ix_list (pv 1) pe_int (fun _ _ => rfl)))
      (pss_cons (ps_if (pt_cmpR op_eq (pv 2) pe_int (nomark _)) (pss_one (ps_ret (pe_fn g_where_is hr2 (pa_cons (pv 0) (pa_cons (pe_ix ix_list (pv 1) pe_int (fun _ _ => rfl)) pa_nil))))) pss_nil)
      (pss_cons (ps_if (pt_cmpR op_eq (pv 2) pe_int (nomark _)) (pss_one (ps_ret (pe_fn g_show_tray hr2 (pa_cons (pv 0) (pa_cons (pe_ix ix_list (pv 1) pe_int (fun _ _ => rfl)) pa_nil))))) pss_nil)
      (pss_cons (ps_if (pt_cmpR op_eq (pv 2) pe_int (nomark _)) (pss_one (ps_ret (pe_fn g_show_hand hr2 (pa_cons (pv 0) (pa_cons (pe_ix ix_list (pv 1) pe_int (fun _ _ => rfl)) pa_nil))))) pss_nil)
      (pss_cons (ps_if (pt_cmpR op_eq (pv 2) pe_int (nomark _)) (pss_one (ps_ret (pe_fn g_ask_tray hr2 (pa_cons (pv 0) (pa_cons (pe_ix ix_list (pv 1) pe_int (fun _ _ => rfl)) (pa_cons (pe_ix ix_list (pv 1) pe_int (fun _ _ => rfl)) (pa_cons (pe_ix ix_list (pv 1) pe_int (fun _ _ => rfl)) pa_nil))))))) pss_nil)
      (pss_cons (ps_if (pt_cmpR op_eq (pv 2) pe_int (nomark _)) (pss_one (ps_ret (pe_fn g_tell_doubles hr2 (pa_cons (pv 0) pa_nil)))) pss_nil)
      (pss_cons (ps_if (pt_cmpR op_eq (pv 2) pe_int (nomark _)) (pss_one (ps_ret (pe_fn g_take_inventory hr (pa_cons (pv 0) (pa_cons (pe_ix ix_list (pv 1) pe_int (fun _ _ => rfl)) (pa_cons (pe_slice sl_list (pv 1) (po_some pe_int) po_none) pa_nil)))))) pss_nil)
      (pss_cons (ps_if (pt_cmpR op_eq (pv 2) pe_int (nomark _)) (pss_one (ps_ret (pe_fn g_tell_counts hr1 (pa_cons (pv 0) pa_nil)))) pss_nil)
      (pss_one (ps_ret (pe_fn g_tell_missing hr2 (pa_cons (pv 0) pa_nil))))))))))), ?_⟩
    refine e_asg ?_
    have I := S.rm
    rcases hc with ⟨n, rfl⟩ | ⟨t, rfl⟩ | ⟨cl, rfl⟩ | ⟨t, lo, hi, rfl⟩ | rfl | ⟨t, l, rfl⟩ | rfl | rfl
    · refine v_at (K := K) 0 (val_var rfl) hb rfl _ ?_
      rw [due_where] at k
      exact sw_yes 8 (va_cons (val_var rfl) (va_1 (v_at 1 (val_var rfl) hb rfl))) ⟨a, A, s.room, s.log, n, rfl, R, I, k⟩
    · refine v_at (K := K) 0 (val_var rfl) hb rfl _ ?_
      rw [due_tray] at k
      exact sw_no _ _ (by decide) (sw_yes 9 (va_cons (val_var rfl) (va_1 (v_at 1 (val_var rfl) hb rfl))) ⟨a, A, s.room, s.log, t, rfl, R, I, k⟩)
    · refine v_at (K := K) 0 (val_var rfl) hb rfl _ ?_
      rw [due_hand] at k
      exact sw_no _ _ (by decide) (sw_no _ _ (by decide) (sw_yes 10 (va_cons (val_var rfl) (va_1 (v_at 1 (val_var rfl) hb rfl))) ⟨a, A, s.room, s.log, cl, rfl, R, I, k⟩))
    · refine v_at (K := K) 0 (val_var rfl) hb rfl _ ?_
      rw [due_ask] at k
      exact sw_no _ _ (by decide) (sw_no _ _ (by decide) (sw_no _ _ (by decide) (sw_yes 11 (va_cons (val_var rfl) (va_cons (v_at 1 (val_var rfl) hb rfl) (va_cons (v_at 2 (val_var rfl) hb rfl) (va_1 (v_at 3 (val_var rfl) hb rfl))))) ⟨a, A, s.room, s.log, t, lo, hi, rfl, R, I, k⟩)))
    · refine v_at (K := K) 0 (val_var rfl) hb rfl _ ?_
      rw [due_doubles] at k
      exact sw_no _ _ (by decide) (sw_no _ _ (by decide) (sw_no _ _ (by decide) (sw_no _ _ (by decide) (sw_yes 16 (va_1 (val_var rfl)) ⟨a, A, s.room, s.log, rfl, R, I, k⟩))))
    · refine v_at (K := K) 0 (val_var rfl) hb rfl _ ?_
      rw [due_inventory] at k
      refine sw_no _ _ (by decide) (sw_no _ _ (by decide) (sw_no _ _ (by decide) (sw_no _ _ (by decide) (sw_no _ _ (by decide) ?_))))
      refine sq_yes ((a_eq (val_var rfl) val_c).to (decide_eq_true rfl)) (e_ret ?_)
      have hb3 : H b = some (.lst (.int 17 :: .int t :: .int (l.length : Int) :: l.map V.int)) := by
        rw [hb]
        simp [flat]
      refine ⟨_, rfl, ?_⟩
      refine v_at (K := K) 1 (val_var rfl) hb3 rfl _ ?_
      refine ⟨_, rfl, 3, rfl, b, _, rfl, SqL.of hb3, fun p hp => ?_⟩
      have ecut : cutV (.int 17 :: .int t :: .int (l.length : Int) :: l.map V.int) (some 3) none = l.map V.int := cut_fromV _ 3
      rw [ecut]
      exact ⟨a, p, A, s.room, s.log, t, l, rfl, R.same (same_new hp), I, upd_same, NewL.back k (same_new hp)⟩
    · refine v_at (K := K) 0 (val_var rfl) hb rfl _ ?_
      rw [due_counts] at k
      exact sw_no _ _ (by decide) (sw_no _ _ (by decide) (sw_no _ _ (by decide) (sw_no _ _ (by decide) (sw_no _ _ (by decide) (sw_no _ _ (by decide) (sw_yes 21 (va_1 (val_var rfl)) ⟨a, A, s.room, s.log, rfl, R, I, k⟩))))))
    · refine v_at (K := K) 0 (val_var rfl) hb rfl _ ?_
      rw [due_missing] at k
      refine sw_no _ _ (by decide) (sw_no _ _ (by decide) (sw_no _ _ (by decide) (sw_no _ _ (by decide) (sw_no _ _ (by decide) (sw_no _ _ (by decide) (sw_no _ _ (by decide) ?_))))))
      exact st_retc (va_1 (val_var rfl)) ⟨a, A, s.room, s.log, rfl, R, I, k⟩
end
end Cc

set_option Elab.async false
set_option linter.all false
set_option maxRecDepth 100000
set_option maxHeartbeats 4000000
namespace Cc
open PySem PySem.Spec PyProof.Rows L2
open VbenCore (isBetween)

def every (_ : List (List Int)) : Prop := True
section
variable {P : Program} {w : World} {K : PySem.W.Frag} {mg : Str → Option Value} {base : Heap} {C : Addr}
theorem sc_answer_call : FnScope ["room", "call", "number"] ["room", "call"] (defScope (top 76)) := ⟨rfl, rfl, rfl, by decide +kernel, rfl, by decide +kernel, by decide +kernel⟩
theorem g_answer_call (D : DefAt K mg "answer_call" (top 76)) (g_begin_room : FnG P w K mg base "begin_room" 2 ["room", "trays", "clerks"] (spBeginRoom C)) (g_do_step : FnG P w K mg base "do_step" 4 ["room", "step"] (spDo C)) (g_answer_of_order : FnG P w K mg base "answer_of_order" 7 ["room", "call"] (spOrd C))
    (g_answer_of_journal : FnG P w K mg base "answer_of_journal" 7 ["room", "call"] (spJour C)) (g_answer_question : FnG P w K mg base "answer_question" 4 ["room", "call"] (spQuest C)) : FnG P w K mg base "answer_call" 8 ["room", "call"] (spCall C every) := by
  refine D.fn sc_answer_call (fun _ _ _ _ _ _ us hl => match us, hl with | [_, _], _ => rfl) (fun vs H Q E h => ?_) (fun f cdv Ar outer s0 H vs Q E hr h => ?_)
  · obtain ⟨_, _, _, _, _, rfl, _⟩ := h
    rfl
  · obtain ⟨a, b, A, s, c, rfl, R, S, hb, nb, hT, _, k⟩ := h
    have hr2 := hr.mono (show 2 ≤ 7 by decide)
    have hr4 := hr.mono (show 4 ≤ 7 by decide)
    refine ⟨_, pss_cons (ps_set (i := 2) sc_answer_call.nd rfl (Or.inl rfl) (pe_ix ix_list (pv 1) pe_int (fun _ _ => rfl)))
      (pss_cons (ps_if (pt_cmpR op_eq (pv 2) pe_int (nomark _)) (pss_one (ps_ret (pe_fn g_begin_room hr2 (pa_cons (pv 0) (pa_cons (pe_ix ix_list (pv 1) pe_int (fun _ _ => rfl)) (pa_cons (pe_ix ix_list (pv 1) pe_int (fun _ _ => rfl)) pa_nil)))))) pss_nil)
      (pss_cons (ps_if (pt_cmpR op_le (pv 2) pe_int (nomark _)) (pss_one (ps_ret (pe_fn g_do_step hr4 (pa_cons (pv 0) (pa_cons (pv 1) pa_nil))))) pss_nil)
      (pss_cons (ps_if (pt_chain op_le op_le pe_int (pv 2) pe_int) (pss_one (ps_ret (pe_fn g_answer_of_order hr (pa_cons (pv 0) (pa_cons (pv 1) pa_nil))))) pss_nil)
      (pss_cons (ps_if (pt_chain op_le op_le pe_int (pv 2) pe_int) (pss_one (ps_ret (pe_fn g_answer_of_journal hr (pa_cons (pv 0) (pa_cons (pv 1) pa_nil))))) pss_nil)
      (pss_cons (ps_if (pt_cmpR op_eq (pv 2) pe_int (nomark _)) (pss_one (ps_ret (pe_fn g_begin_room hr2 (pa_cons (pv 0) (pa_cons pe_int (pa_cons pe_int pa_nil)))))) pss_nil)
      (pss_one (ps_ret (pe_fn g_answer_question hr4 (pa_cons (pv 0) (pa_cons (pv 1) pa_nil)))))))))), ?_⟩
    have le_no : ∀ (x y : Int) {t1 tz : TS} {D : Ends}, ¬ x ≤ y → tz D [some (.ref a), some (.ref b), some (.int x)] H → tSeq (tIfS (tTest (tOp (rI0 fun i j => .bl (decide (i ≤ j))) (tVar 2) (tC (.int y)))) t1 tNext) tz D [some (.ref a), some (.ref b), some (.int x)] H := fun x y _ _ _ n k => sq_no ((a_le (val_var rfl) val_c).to (decide_eq_false n)) k
    have ch : ∀ (x lo hi : Int), Ans (tTest (tChain (rI0 fun i j => .bl (decide (i ≤ j))) (rI0 fun i j => .bl (decide (i ≤ j))) (tC (.int lo)) (tVar 2) (tC (.int hi)))) [some (.ref a), some (.ref b), some (.int x)] H (isBetween x lo hi) := fun x lo hi => ans_tt (val_btw val_c (val_var rfl) val_c)
    have quest : ∀ {c : List (List Int)}, QuestC c → CallQ C a A b s c H Q → NewL H ((Vbenai.step s c).2.map V.int) Q := fun hq k => (k.r (show Vbenai.step s _ = (s, (Vbenai.step s _).2) from Prod.ext (quest_same hq s) rfl)).new R
    refine e_asg ?_
    rcases told_cases hT with ⟨t, cl, rfl⟩ | ⟨x, xs, rfl, x1, x7, hev⟩ | ⟨row, rfl, hrow⟩ | ⟨row, rfl, hrow⟩ | rfl | hq
    · refine v_at (K := K) 0 (val_var rfl) hb rfl _ ?_
      exact sw_yes 0 (va_cons (val_var rfl) (va_cons (v_at 1 (val_var rfl) hb rfl) (va_1 (v_at 2 (val_var rfl) hb rfl)))) ⟨a, A, s, t, cl, rfl, R, k.r rfl⟩
    · have hb2 : H b = some (.lst ((x :: xs).map V.int)) := by
        rw [hb]
        simp [flat]
      refine v_at (K := K) 0 (val_var rfl) hb2 rfl _ ?_
      refine sw_no _ _ (by omega) ?_
      refine sq_yes ((a_le (val_var rfl) val_c).to (decide_eq_true x7)) ?_
      obtain ⟨⟨e, ok⟩, he⟩ := Option.isSome_iff_exists.mp (hev s.room)
      have ds := due_step he
      refine st_retc (va_cons (val_var rfl) (va_1 (val_var rfl))) ⟨a, b, A, s.room, s.log, x :: xs, e, ok, rfl, R, S.rm, S.ll, hb2, nb, he, fun p H' A' R' F' hp np h' => ?_⟩
      refine k p H' A' (by rw [ds]; exact R') F' hp np (by rw [ds]; exact h')
    · have hb2 : H b = some (.lst (row.map V.int)) := by
        rw [hb]
        simp [flat]
      have hn : ∃ x rest, row = x :: rest ∧ 12 ≤ x ∧ x ≤ 15 := by
        rcases hrow with rfl | rfl | rfl | ⟨t, rfl⟩
        · exact ⟨_, _, rfl, by decide, by decide⟩
        · exact ⟨_, _, rfl, by decide, by decide⟩
        · exact ⟨_, _, rfl, by decide, by decide⟩
        · exact ⟨_, _, rfl, by decide, by decide⟩
      obtain ⟨x, rest, rfl, x1, x2⟩ := hn
      refine v_at (K := K) 0 (val_var rfl) hb2 rfl _ ?_
      refine sw_no _ _ (by omega) (le_no _ _ (by omega) ?_)
      refine sq_yes ((ch x 12 15).to (by unfold VbenCore.isBetween; rw [decide_eq_true x1, decide_eq_true x2]; rfl)) ?_
      exact st_retc (va_cons (val_var rfl) (va_1 (val_var rfl))) ⟨a, b, A, s, x :: rest, rfl, R, S, hb2, hrow, (k.r (show Vbenai.step s _ = (s, (Vbenai.step s _).2) from Prod.ext (ord_same hrow s) rfl)).new R⟩
    · have hb2 : H b = some (.lst (row.map V.int)) := by
        rw [hb]
        simp [flat]
      have hn : ∃ x rest, row = x :: rest ∧ 18 ≤ x ∧ x ≤ 20 := by
        rcases hrow with rfl | rfl | ⟨t, rfl⟩
        · exact ⟨_, _, rfl, by decide, by decide⟩
        · exact ⟨_, _, rfl, by decide, by decide⟩
        · exact ⟨_, _, rfl, by decide, by decide⟩
      obtain ⟨x, rest, rfl, x1, x2⟩ := hn
      refine v_at (K := K) 0 (val_var rfl) hb2 rfl _ ?_
      refine sw_no _ _ (by omega) (le_no _ _ (by omega) ?_)
      refine sq_no ((ch x 12 15).to (by unfold VbenCore.isBetween; rw [decide_eq_false (show ¬ x ≤ 15 by omega), Bool.and_false])) ?_
      refine sq_yes ((ch x 18 20).to (by unfold VbenCore.isBetween; rw [decide_eq_true x1, decide_eq_true x2]; rfl)) ?_
      exact st_retc (va_cons (val_var rfl) (va_1 (val_var rfl))) ⟨a, b, A, s, x :: rest, rfl, R, S, hb2, hrow, k.r rfl⟩
    · refine v_at (K := K) 0 (val_var rfl) hb rfl _ ?_
      refine sw_no _ _ (by decide) (le_no _ _ (by decide) ?_)
      refine sq_no ((ch 23 12 15).to (by decide)) ?_
      refine sq_no ((ch 23 18 20).to (by decide)) ?_
      exact sw_yes 23 (va_cons (val_var rfl) (va_cons val_c (va_1 val_c))) ⟨a, A, s, 1, 1, rfl, R, k.r (due_clear s)⟩
    · have hn : ∃ x rest, flat c = x :: rest ∧ x ≠ 0 ∧ ¬ x ≤ 7 ∧ isBetween x 12 15 = false ∧ isBetween x 18 20 = false ∧ x ≠ 23 := by
        rcases hq with ⟨n, rfl⟩ | ⟨t, rfl⟩ | ⟨cl, rfl⟩ | ⟨t, lo, hi, rfl⟩ | rfl | ⟨t, l, rfl⟩ | rfl | rfl <;> exact ⟨_, _, rfl, by decide, by decide, by decide, by decide, by decide⟩
      obtain ⟨x, rest, hfl, n1, n2, n3, n4, n5⟩ := hn
      have hb2 : H b = some (.lst ((x :: rest).map V.int)) := by rw [hb, hfl]
      refine v_at (K := K) 0 (val_var rfl) hb2 rfl _ ?_
      refine sw_no _ _ n1 (le_no _ _ n2 (sq_no ((ch x 12 15).to n3) (sq_no ((ch x 18 20).to n4) (sw_no _ _ n5 ?_))))
      exact st_retc (va_cons (val_var rfl) (va_1 (val_var rfl))) ⟨a, b, A, s, c, rfl, R, S, hb, hq, quest hq k⟩
/-! ### end_of_call -/
theorem flat_one (row : List Int) : flat [row] = row := by simp [flat]
theorem flat_two (h row : List Int) : flat [h, row] = h ++ ((row.length : Int) :: row) := by simp [flat]
def spEnd (K : PySem.W.Frag) : Sp := fun vs H Q _ => ∃ (a : Addr) (l : List Int) (i : Nat) (c : List (List Int)) (t : List Int), vs = [.ref a, .int (i : Int)] ∧ SqL K H a (l.map V.int) ∧ l.drop i = flat c ++ t ∧ Told c ∧ Q (.int ((i + (flat c).length : Nat) : Int)) H
theorem sc_end_of_call : FnScope ["calls", "at", "number", "end"] ["calls", "at"] (defScope (top 77)) := ⟨rfl, rfl, rfl, by decide +kernel, rfl, by decide +kernel, by decide +kernel⟩
theorem g_end_of_call (D : DefAt K mg "end_of_call" (top 77)) (T : Txt K mg C) : FnG P w K mg base "end_of_call" 1 ["calls", "at"] (spEnd K) := by
  refine D.fn sc_end_of_call (fun _ _ _ _ _ _ us hl => match us, hl with | [_, _], _ => rfl) (fun vs H Q E h => ?_) (fun f cdv Ar outer s0 H vs Q E hr h => ?_)
  · obtain ⟨_, _, _, _, _, rfl, _⟩ := h
    rfl
  · obtain ⟨a, l, i, c, t, rfl, hS, hd, hT, k⟩ := h
    obtain ⟨aARGUMENTS, hARGUMENTS, hargs⟩ := T.args
    refine ⟨_, pss_cons (ps_set (i := 2) sc_end_of_call.nd rfl (Or.inl rfl) (pe_ix ix_list (pv 0) (pv 1) (fun _ _ => rfl)))
      (pss_cons (ps_set (i := 3) sc_end_of_call.nd rfl (Or.inl rfl) (pe_op op_add (pe_op op_add (pv 1) pe_int) (pe_ix ix_tup (pe_glob (v := .ref aARGUMENTS) rfl hARGUMENTS rfl) (pv 2) (fun _ _ => rfl))))
      (pss_cons (ps_if (pt_cmpR op_eq (pv 2) (pe_num (T.at_ 16 rfl)) (nomark _)) (pss_one (ps_ret (pe_op op_add (pv 3) (pe_ix ix_list (pv 0) (pe_op op_sub (pv 3) pe_int) (fun _ _ => rfl))))) pss_nil)
      (pss_one (ps_ret (pv 3))))), ?_⟩
    obtain ⟨p, n, kk, xs, rows, sh, hx, hrw, rfl⟩ := hT
    obtain ⟨p0, p23, hk, htab⟩ := shape_some sh
    obtain ⟨pn, rfl⟩ := nat_of p0
    rw [Int.toNat_natCast] at htab
    have hat : ∀ j, (flat (((pn : Int) :: xs) :: rows))[j]? = none ∨ l[i + j]? = (flat (((pn : Int) :: xs) :: rows))[j]? := fun j => by
      by_cases hj : j < (flat (((pn : Int) :: xs) :: rows)).length
      · right
        rw [← List.getElem?_drop, hd, List.getElem?_append_left hj]
      · left
        exact List.getElem?_eq_none (by omega)
    have hfl0 : (flat (((pn : Int) :: xs) :: rows))[0]? = some (pn : Int) := rfl
    have hli : l[i]? = some (pn : Int) := by
      rcases hat 0 with z | z
      · rw [hfl0] at z; cases z
      · rw [Nat.add_zero] at z; rw [z]; exact hfl0
    -- number = calls[at]
    refine e_asg ?_
    refine val_ixL (K := K) (j := i) (val_var rfl) (val_var rfl) hS rfl (by rw [List.getElem?_map, hli]; rfl) _ ?_
    have htab2 : (args.map (He.Dv.v K))[pn]? = some (.int ((n + kk : Nat) : Int)) := by
      have hpn : pn < 24 := by omega
      subst hk
      match pn, hpn, htab with
      | 0, _, h => cases h; rfl
      | 1, _, h => cases h; rfl
      | 2, _, h => cases h; rfl
      | 3, _, h => cases h; rfl
      | 4, _, h => cases h; rfl
      | 5, _, h => cases h; rfl
      | 6, _, h => cases h; rfl
      | 7, _, h => cases h; rfl
      | 8, _, h => cases h; rfl
      | 9, _, h => cases h; rfl
      | 10, _, h => cases h; rfl
      | 11, _, h => cases h; rfl
      | 12, _, h => cases h; rfl
      | 13, _, h => cases h; rfl
      | 14, _, h => cases h; rfl
      | 15, _, h => cases h; rfl
      | 16, _, h => cases h; rfl
      | 17, _, h => cases h; rfl
      | 18, _, h => cases h; rfl
      | 19, _, h => cases h; rfl
      | 20, _, h => cases h; rfl
      | 21, _, h => cases h; rfl
      | 22, _, h => cases h; rfl
      | 23, _, h => cases h; rfl
    -- end = at + 1 + ARGUMENTS[number]
    refine e_asg ?_
    refine val_I (i := (i : Int) + 1) (j := ((n + kk : Nat) : Int)) (val_I (i := (i : Int)) (j := 1) (val_var rfl) val_c) (val_ixT (K := K) (j := pn) val_c (val_var rfl) (hargs H) rfl htab2) _ ?_
    by_cases h17 : pn = 17
    · subst h17
      cases htab
      have hk1 : kk = 1 := hk
      subst hk1
      match xs, hx, rows, hrw with
      | [y], _, [row], _ =>
        refine sq_yes ((a_eq (val_var rfl) val_c).to (by decide)) (e_ret ?_)
        have hl2 : l[i + 2]? = some (row.length : Int) := by
          rcases hat 2 with z | z
          · rw [flat_two] at z; cases z
          · rw [z, flat_two]; rfl
        refine val_I (i := (i : Int) + 1 + ((1 + 1 : Nat) : Int)) (j := (row.length : Int)) (val_var rfl) (val_ixL (K := K) (i := (i : Int) + 1 + ((1 + 1 : Nat) : Int) - 1) (j := i + 2) (val_var rfl) (val_I (i := (i : Int) + 1 + ((1 + 1 : Nat) : Int)) (j := 1) (val_var rfl) val_c) hS (by omega) (by rw [List.getElem?_map, hl2]; rfl)) _ ?_
        have ee : ((i + (flat [[((17 : Nat) : Int), y], row]).length : Nat) : Int) = (i : Int) + 1 + ((1 + 1 : Nat) : Int) + (row.length : Int) := by
          rw [flat_two]
          simp
          omega
        rw [ee] at k
        exact k
    · have hk0 : kk = 0 := by rw [hk, if_neg (by omega)]
      subst hk0
      have hrw0 : rows = [] := List.length_eq_zero_iff.mp hrw
      subst hrw0
      refine sq_no ((a_eq (val_var rfl) val_c).to (decide_eq_false (by omega))) (e_ret ?_)
      refine ⟨_, rfl, ?_⟩
      have ee : ((i + (flat [(pn : Int) :: xs]).length : Nat) : Int) = (i : Int) + 1 + ((n + 0 : Nat) : Int) := by
        rw [flat_one, List.length_cons, hx]
        omega
      rw [ee] at k
      exact k
end
end Cc

set_option Elab.async false
set_option linter.all false
set_option maxRecDepth 100000
set_option maxHeartbeats 4000000
namespace Cc
open PySem PySem.Spec PyProof.Rows L2
open VbenCore (isBetween)

/-- a call is read: its numbers stand ahead of the rest -/
theorem parse_flat {f : Nat} {p : Int} {r : List Int} {cs : List (List (List Int))} (h : PyFlat.calls PyVbenai.shape f (p :: r) = some cs) :
    ∃ c t rest f', Told c ∧ cs = c :: rest ∧ p :: r = flat c ++ t ∧ PyFlat.calls PyVbenai.shape f' t = some rest := by
  obtain ⟨n, k, xs, t, rest, f', sh, hn, hrows, rfl, hp⟩ := parse_step h
  obtain ⟨_, _, hk, _⟩ := shape_some sh
  have hln : (r.take n).length = n := by rw [List.length_take]; omega
  by_cases e : p = 17
  · rw [if_pos e] at hk
    subst hk
    obtain ⟨m, r', e1, m0, ml, rfl, rfl⟩ := rows_one hrows
    refine ⟨_, _, rest, f', ⟨p, n, 1, r.take n, [r'.take m.toNat], sh, hln, rfl, rfl⟩, rfl, ?_, hp⟩
    rw [flat_two]
    have el : ((r'.take m.toNat).length : Int) = m := by rw [List.length_take, Nat.min_eq_left ml]; omega
    rw [el, List.append_assoc, List.cons_append, List.cons_append, List.take_append_drop, ← e1, List.take_append_drop]
  · rw [if_neg e] at hk
    subst hk
    obtain ⟨rfl, rfl⟩ := rows_zero hrows
    refine ⟨_, _, rest, f', ⟨p, n, 0, r.take n, [], sh, hln, rfl, rfl⟩, rfl, ?_, hp⟩
    rw [flat_one, List.cons_append, List.take_append_drop]
theorem flat_pos {c : List (List Int)} (h : Told c) : 1 ≤ (flat c).length := by
  obtain ⟨p, n, k, xs, rows, _, _, _, rfl⟩ := h
  show 1 ≤ ((p :: xs) ++ _).length
  rw [List.length_append, List.length_cons]
  omega
theorem told_cons (s : Vbenai.State) (c : List (List Int)) (rest : List (List (List Int))) :
    PyFlat.told (PyFlat.played Vbenai.step s (c :: rest)) = (((Vbenai.step s c).2.length : Int) :: (Vbenai.step s c).2) ++ PyFlat.told (PyFlat.played Vbenai.step (Vbenai.step s c).1 rest) := by
  simp only [PyFlat.played, PyFlat.told, List.flatMap_cons]
/-- what holds between two calls: i numbers are read, out is told -/
structure Loop (K : PySem.W.Frag) (C : Addr) (H : Hp) (l : List Int) (ra g : Addr) (i : Nat) (out : List Int) (H' : Hp) : Prop where
  sm : Same H H'
  gl : H' g = some (.lst (out.map V.int))
  gn : H g = none
  il : i ≤ l.length
  ex : ∃ (A : Ad) (s : Vbenai.State) (rest : List (List (List Int))) (f : Nat), RoomAt C H' ra A s.room s.log ∧ SInv s ∧ g ∉ ra :: A.own ∧ (∀ x ∈ ra :: A.own, H x = none) ∧ PyFlat.calls PyVbenai.shape f (l.drop i) = some rest ∧
    out ++ PyFlat.told (PyFlat.played Vbenai.step s rest) = PyVbenai.answers l
theorem len_le {α : Type} {a b c : List α} {n : Nat} (e : a ++ b = c) (h : c.length ≤ n) : a.length ≤ n := by
  rw [← e, List.length_append] at h
  omega
section
variable {P : Program} {w : World} {K : PySem.W.Frag} {mg : Str → Option Value} {base : Heap} {C : Addr}
theorem sc_answers : FnScope ["calls", "room", "given", "at", "end", "answer"] ["calls"] (defScope (top 78)) := ⟨rfl, rfl, rfl, by decide +kernel, rfl, by decide +kernel, by decide +kernel⟩
/-- a def's body read, its object given -/
theorem fn_ok {x : Str} {st : Stmt} {N ps : List Str} {k : Nat} {sp : Sp} {f : Addr} {fd : FuncData} (F : FunD K x x (defArgs st) (defBody st) (defScope st) [] [] f fd) (S : FnScope N ps (defScope st)) (len : ∀ vs H Q E, sp vs H Q E → vs.length = ps.length)
    (body : ∀ (cdv : Value) (A : Around) (outer : List Env) (s : Shared) (H : Hp) (vs : List V) (Q : VK) (E : XK), L2.Room k (A.deeper (envOfC x (defScope st) s.heap.objs.size f cdv)) → sp vs H Q E →
      ∃ t, PSs (cxOf CX0 P w K mg base N x (defScope st) f cdv A outer s H E).nox (defBody st) t ∧ t { nx := fun _ H' => Q .non H', rt := Q } (L2.start N vs) H) : FnOk P w K mg base CX0 (k + 1) f fd ps sp :=
  F.ok S len fun cdv A outer s H vs Q E hr h => by
    obtain ⟨t, a, b⟩ := body cdv A outer s H vs Q E hr h
    exact ⟨t, PSs.nox a, b⟩
theorem ok_answers {f : Addr} {fd : FuncData} (F : FunD K "answers" "answers" (defArgs (top 78)) (defBody (top 78)) (defScope (top 78)) [] [] f fd) (T : Txt K mg C) (mk_Room : MkG P w K mg base C "Room" 2 ["self", "trays", "clerks"] (spInit C)) (g_end_of_call : FnG P w K mg base "end_of_call" 1 ["calls", "at"] (spEnd K)) (g_answer_call : FnG P w K mg base "answer_call" 8 ["room", "call"] (spCall C every)) : FnOk P w K mg base CX0 9 f fd ["calls"] (spAns K) := by
  refine fn_ok F sc_answers (fun vs H Q E h => ?_) (fun cdv Ar outer s0 H vs Q E hr h => ?_)
  · obtain ⟨_, _, rfl, _⟩ := h
    rfl
  · obtain ⟨a, l, rfl, hS, hO, hl, hask, k⟩ := h
    obtain ⟨raw, f0, hraw, _, _, _, hans, hshort⟩ := due hask
    have hr1 := hr.mono (show 1 ≤ 8 by decide)
    refine ⟨_, pss_cons (ps_set (i := 1) sc_answers.nd rfl (Or.inl rfl) (pe_mk mk_Room (hr.mono (by decide)) (pa_cons pe_int (pa_cons pe_int pa_nil))))
      (pss_cons (ps_set (i := 2) sc_answers.nd rfl (Or.inl rfl) (pe_lst pa_nil))
      (pss_cons (ps_set (i := 3) sc_answers.nd rfl (Or.inl rfl) pe_int)
      (pss_cons (ps_while PassesOwn.never (pt_cmpR op_lt (pv 3) (pe_callB call_len_seq (by rfl) T.len PySem.boot_len (pa_cons (pv 0) pa_nil)) (nomark _)) (pss_cons (ps_set (i := 4) sc_answers.nd rfl (Or.inl rfl) (pe_fn g_end_of_call hr1 (pa_cons (pv 0) (pa_cons (pv 3) pa_nil))))
      (pss_cons (ps_set (i := 5) sc_answers.nd rfl (Or.inl rfl) (pe_fn g_answer_call hr (pa_cons (pv 1) (pa_cons (pe_slice sl_list (pv 0) (po_some (pv 3)) (po_some (pv 4))) pa_nil))))
      (pss_cons (ps_expr (pe_bm PySem.F.plainAttrs_list PySem.F.slot_list_append PySem.F.type_list_append mt_append (pv 2) (pa_cons (pe_callB call_len_seq (by rfl) T.len PySem.boot_len (pa_cons (pv 5) pa_nil)) pa_nil)))
      (pss_cons (ps_expr (pe_bm PySem.F.plainAttrs_list PySem.F.slot_list_extend PySem.F.type_list_extend mt_extend (pv 2) (pa_cons (pv 5) pa_nil)))
      (pss_one (ps_set (i := 3) sc_answers.nd rfl (Or.inl rfl) (pv 4))))))))
      (pss_one (ps_ret (pv 2)))))), ?_⟩
    -- room = Room(1, 1)
    intro x dx nx ndx nex
    refine ⟨x, dx, 1, 1, rfl, upd_same, by decide, by decide, by decide, by decide, fun H1 A1 R1 _ kp1 nw1 => ⟨rfl, ?_⟩⟩
    have s0' : Same H (upd (upd H dx (.own x)) x (.ins C dx [])) := fun b o e => by
      rw [upd_ne (ne_of_none e nx), upd_ne (ne_of_none e ndx)]
      exact e
    have s1 : Same H H1 := fun b o e => kp1 b o (s0' b o e) (ne_of_none e nx)
    have own1 : ∀ y ∈ x :: A1.own, H y = none := fun y hy => by
      rcases List.mem_cons.mp hy with e | m
      · rw [e]; exact nx
      · exact Same.free s0' (nw1 y m)
    -- given = []; at = 0
    refine ⟨Nat.zero_le _, fun g hg => ?_⟩
    have L0 : Loop K C H l x g 0 [] (upd H1 g (.lst [])) :=
      ⟨s1.trans (same_new hg), upd_same, Same.free s1 hg, Nat.zero_le _, A1, Vbenai.start, raw, f0, R1.same (same_new hg), start_inv, fun m => R1.alive m hg, own1, hraw, by rw [List.nil_append]; exact hans.symm⟩
    generalize upd H1 g (.lst []) = H2 at L0
    refine while_by (fun σ H' => ∃ (i : Nat) (v4 v5 : Option V) (out : List Int), σ = [some (.ref a), some (.ref x), some (.ref g), some (.int (i : Int)), v4, v5] ∧ Loop K C H l x g i out H')
      (fun σ _ => match σ with | [_, _, _, some (.int i), _, _] => l.length - i.toNat | _ => 0) ⟨0, none, none, [], rfl, L0⟩ ?_ ?_
    · rintro σ H3 ⟨i, v4, v5, out, rfl, Lp⟩
      have hS3 : SqL K H3 a (l.map V.int) := Lp.sm.seq hS
      have htest : Ans (tTest (tOp (rI0 fun i j => .bl (decide (i < j))) (tVar 3) (tCB (fun xs H Q => ∃ p ys, xs = [.ref p] ∧ (SqL K H p ys ∨ SqT K H p ys) ∧ Q (.int ys.length) H) (tCons (tVar 0) tNil)))) [some (.ref a), some (.ref x), some (.ref g), some (.int (i : Int)), v4, v5] H3 (decide (i < l.length)) := by
        refine ans_cmp (val_var rfl) (val_cb (va_1 (val_var rfl)) fun Q q => ⟨a, _, rfl, .inl hS3, q⟩) fun Q q => ⟨_, _, rfl, rfl, ?_⟩
        have e : decide ((i : Int) < ((l.map V.int).length : Int)) = decide (i < l.length) := by
          rw [List.length_map]
          by_cases h : i < l.length
          · rw [decide_eq_true h, decide_eq_true (by omega)]
          · rw [decide_eq_false h, decide_eq_false (by omega)]
        show Q (.bl (decide ((i : Int) < ((l.map V.int).length : Int)))) H3
        rw [e]
        exact q
      obtain ⟨sm, gl, gn, il, A, s, rest, fu, R, S, ng, own, hp, hout⟩ := Lp
      refine htest _ ?_
      by_cases hi : i < l.length
      · rw [decide_eq_true hi]
        refine iteT ?_
        -- the call at i
        obtain ⟨p, hpi⟩ : ∃ p, l[i]? = some p := ⟨_, List.getElem?_eq_getElem hi⟩
        have ed : l.drop i = p :: l.drop (i + 1) := by
          rw [List.drop_eq_getElem_cons hi]
          have := List.getElem?_eq_getElem hi
          rw [hpi] at this
          rw [Option.some.inj this]
        rw [ed] at hp
        obtain ⟨c, t, rest', f', hT, rfl, hfl, hp'⟩ := parse_flat hp
        rw [← ed] at hfl
        have hpos := flat_pos hT
        have hlen : (flat c).length + t.length = l.length - i := by
          have z := congrArg List.length hfl
          rw [List.length_append, List.length_drop] at z
          omega
        -- end = end_of_call(calls, at)
        refine e_asg ?_
        refine e_call (va_cons (val_var rfl) (va_1 (val_var rfl))) ⟨a, l, i, c, t, rfl, hS3, hfl, hT, ?_⟩
        -- answer = answer_call(room, calls[at:end])
        refine ⟨_, rfl, _, rfl, _, rfl, (i : Int), rfl, _, rfl, ((i + (flat c).length : Nat) : Int), rfl, a, _, rfl, hS3, fun b hb => ?_⟩
        rw [cut_nat l (by omega) (by omega)]
        have ecut : (l.drop i).take (i + (flat c).length - i) = flat c := by
          rw [hfl, show i + (flat c).length - i = (flat c).length by omega]
          exact List.take_left ..
        rw [ecut]
        have sb : Same H3 (upd H3 b (.lst ((flat c).map V.int))) := same_new hb
        have hbH : H b = none := Same.free sm hb
        have nb : b ∉ x :: A.own := fun m => R.alive m hb
        have gl4 := sb _ _ gl
        have gb : g ≠ b := ne_of_none gl hb
        refine ⟨x, b, A, s, c, rfl, R.same sb, S, upd_same, nb, hT, trivial, fun q H5 A5 R5 F5 hq nq h5 => ?_⟩
        have hH4 : ∀ b' o', H b' = some o' → (upd H3 b (.lst ((flat c).map V.int))) b' = some o' := fun b' o' h => sb _ _ (sm _ _ h)
        generalize upd H3 b (.lst ((flat c).map V.int)) = H4 at sb gl4 F5 hq hH4
        have S' := step_sinv S c
        have gl5 := F5.kp g _ gl4 ng
        have ng5 : g ∉ x :: A5.own := fun m => by
          rcases List.mem_cons.mp m with e | m
          · exact ng (by rw [e]; exact List.mem_cons_self)
          · rcases F5.nw g m with z | z | z
            · exact ng z
            · rw [gl4] at z; cases z
            · exact gb z
        have own5 : ∀ y ∈ x :: A5.own, H y = none := fun y hy => by
          rcases List.mem_cons.mp hy with e | m
          · rw [e]; exact own x List.mem_cons_self
          · rcases F5.nw y m with z | z | z
            · exact own y z
            · cases e : H y with
              | none => rfl
              | some o => rw [hH4 y o e] at z; cases z
            · rw [z]; exact hbH
        have s5 : Same H H5 := fun b' o' h => F5.kp b' o' (hH4 b' o' h) fun m => by
          rw [own b' m] at h
          cases h
        have hqH : H q = none := by
          cases e : H q with
          | none => rfl
          | some o => rw [hH4 q o e] at hq; cases hq
        have gq : g ≠ q := ne_of_none gl4 hq
        rw [told_cons] at hout
        generalize Vbenai.step s c = st at R5 h5 S' hout
        have lout : out.length + (st.2.length + 1) ≤ 10000000 := by
          have z := congrArg List.length hout
          rw [List.length_append, List.length_append, List.length_cons] at z
          omega
        -- given.append(len(answer))
        refine ⟨_, rfl, .inl ⟨rfl, _, SqL.of gl5⟩, _, rfl, q, _, rfl, .inl (SqL.of h5), g, _, _, rfl, rfl, gl5, ?_, ?_⟩
        · rw [List.length_map]
          exact Nat.lt_of_le_of_lt (show out.length ≤ 10000000 by omega) (by decide)
        have h6 : upd H5 g (.lst (out.map V.int ++ [.int ((st.2.map V.int).length : Int)])) q = some (.lst (st.2.map V.int)) := by rw [upd_ne gq.symm]; exact h5
        have gl6 : upd H5 g (.lst (out.map V.int ++ [.int ((st.2.map V.int).length : Int)])) g = some (.lst (out.map V.int ++ [.int ((st.2.map V.int).length : Int)])) := upd_same
        have R6 := R5.off gl5 ng5 (.lst (out.map V.int ++ [.int ((st.2.map V.int).length : Int)]))
        have s6 : Same H (upd H5 g (.lst (out.map V.int ++ [.int ((st.2.map V.int).length : Int)]))) := fun b' o' h => by rw [upd_ne (ne_of_none h gn)]; exact s5 _ _ h
        generalize upd H5 g (.lst (out.map V.int ++ [.int ((st.2.map V.int).length : Int)])) = H6 at h6 gl6 R6 s6
        -- given.extend(answer)
        refine ⟨_, rfl, .inl ⟨rfl, _, SqL.of gl6⟩, _, rfl, g, q, _, _, rfl, rfl, gl6, h6, ?_, ?_⟩
        · simp only [List.length_append, List.length_map, List.length_cons, List.length_nil]
          exact Nat.le_trans (show out.length + 1 + st.2.length ≤ 10000000 by omega) (by decide)
        have R7 := R6.off gl6 ng5 (.lst (out.map V.int ++ [.int ((st.2.map V.int).length : Int)] ++ st.2.map V.int))
        have s7 : Same H (upd H6 g (.lst (out.map V.int ++ [.int ((st.2.map V.int).length : Int)] ++ st.2.map V.int))) := fun b' o' h => by rw [upd_ne (ne_of_none h gn)]; exact s6 _ _ h
        have e7 : out.map V.int ++ [V.int ((st.2.map V.int).length : Int)] ++ st.2.map V.int = (out ++ ((st.2.length : Int) :: st.2)).map V.int := by
          rw [List.length_map, List.map_append, List.map_cons, List.append_assoc]
          rfl
        have gl7 : upd H6 g (.lst (out.map V.int ++ [.int ((st.2.map V.int).length : Int)] ++ st.2.map V.int)) g = some (.lst ((out ++ ((st.2.length : Int) :: st.2)).map V.int)) := by rw [upd_same, e7]
        -- at = behind
        refine ⟨_, rfl, ⟨i + (flat c).length, _, _, out ++ ((st.2.length : Int) :: st.2), rfl, s7, gl7, gn, by omega, A5, st.1, rest', f', R7, S', ng5, own5, ?_, ?_⟩, ?_⟩
        · rw [← hp', ← List.drop_drop, hfl]
          refine congrArg (PyFlat.calls PyVbenai.shape f') ?_
          exact List.drop_left ..
        · rw [List.append_assoc]
          exact hout
        · show l.length - ((i + (flat c).length : Nat) : Int).toNat < l.length - ((i : Nat) : Int).toNat
          omega
      · rw [decide_eq_false hi]
        refine iteF ?_
        refine ⟨_, rfl, ?_⟩
        have ei : i = l.length := by omega
        subst ei
        rw [List.drop_length] at hp
        have := calls_nil hp
        subst this
        have ho : out = PyVbenai.answers l := by
          rw [← hout]
          simp [PyFlat.played, PyFlat.told]
        rw [← ho] at k
        exact k H3 g gl
    · intro σ H' Q1 Q2 hq h
      obtain ⟨v, hv, h⟩ := h
      obtain ⟨v0, hv0, p, ys, e, hs, i', j', e1, e2, kk, e3, h⟩ := h
      exact ⟨v, hv, v0, hv0, p, ys, e, hs, i', j', e1, e2, kk, e3, hq _ _ h⟩
end
end Cc

set_option Elab.async false
set_option linter.all false
set_option maxRecDepth 100000
set_option maxHeartbeats 4000000
namespace Cc
open PySem PySem.Spec PyProof.Rows L2
section
variable {P : Program} {w : World} {K : PySem.W.Frag} {mg : Str → Option Value} {base : Heap} {h : Heap} {C : Addr}
theorem def_of (KX : K.In h) (c : SaysA K) (G : h.Ns mainGlobals mg) {x : Str} {i : Nat} (j m : Nat) (h1 : fn[j]? = some (dG x i)) (h2 : fa[m]? = some (.glo x)) : DefAt K mg x (top i) := by
  obtain ⟨fd, F⟩ := c.1.def_ j (d := dG x i) h1
  exact ⟨He.ga K x, fd, He.glo_ok KX G (c.1.fact m (f := .glo x) h2), F⟩
theorem met_of (c : SaysA K) {m q : Str} {i n : Nat} (j k : Nat) (h1 : fn[j]? = some (dM m q i n)) (h2 : fa[k]? = some (.meth "Room" m)) : MetAt K (He.ga K "Room") m q (inClass (top i) n) := by
  obtain ⟨fd, F⟩ := c.1.def_ j (d := dM m q i n) h1
  exact ⟨He.ma K (He.ga K "Room") m, fd, He.meth_ok (c.1.fact k (f := .meth "Room" m) h2), F⟩
/-- the numbers of the top -/
theorem num_of (KX : K.In h) (c : SaysA K) (G : h.Ns mainGlobals mg) : ∀ q ∈ gints, ∃ tk, mg q.1 = some (.int q.2 tk) := fun q hq => by
  obtain ⟨i, hi⟩ := List.getElem?_of_mem hq
  have hm : He.Fa.int q.1 q.2 ∈ fa := by
    unfold fa
    exact List.mem_append_left _ (List.mem_append_right _ (List.mem_map.mpr ⟨q, hq, rfl⟩))
  obtain ⟨j, hj⟩ := List.getElem?_of_mem hm
  exact He.int_ok KX G (c.1.fact j (f := .int q.1 q.2) hj)
theorem txt_of (KX : K.In h) (c : SaysA K) (G : h.Ns mainGlobals mg) : Txt K mg (He.ga K "Room") where
  cl := He.cls_ok (c.1.fact 0 (f := .cls "Room") rfl)
  nCards := He.noat_ok (c.1.fact 2 (f := .noat "Room" "cards") rfl)
  nTrays := He.noat_ok (c.1.fact 3 (f := .noat "Room" "trays") rfl)
  nHands := He.noat_ok (c.1.fact 4 (f := .noat "Room" "hands") rfl)
  nLent := He.noat_ok (c.1.fact 5 (f := .noat "Room" "lent") rfl)
  nLost := He.noat_ok (c.1.fact 6 (f := .noat "Room" "lost") rfl)
  nJournal := He.noat_ok (c.1.fact 7 (f := .noat "Room" "journal") rfl)
  len := He.free_ok KX G (c.1.fact 85 (f := .free "len") rfl)
  range := He.free_ok KX G (c.1.fact 86 (f := .free "range") rfl)
  enum := He.free_ok KX G (c.1.fact 87 (f := .free "enumerate") rfl)
  list := He.free_ok KX G (c.1.fact 88 (f := .free "list") rfl)
  all := He.free_ok KX G (c.1.fact 89 (f := .free "all") rfl)
  sorted := He.free_ok KX G (c.1.fact 90 (f := .free "sorted") rfl)
  max := He.free_ok KX G (c.1.fact 91 (f := .free "max") rfl)
  zip := He.free_ok KX G (c.1.fact 92 (f := .free "zip") rfl)
  sum := He.free_ok KX G (c.1.fact 93 (f := .free "sum") rfl)
  set := He.free_ok KX G (c.1.fact 94 (f := .free "set") rfl)
  num := num_of KX c G
  args := ⟨He.ga K "ARGUMENTS", He.glo_ok KX G (c.1.fact 66 (f := .glo "ARGUMENTS") rfl), fun H => He.tupB_ok c.2 H⟩
theorem mk_room {f : Addr} {fd : FuncData} (M : Mk K C f) (hm : mg "Room" = some (.ref C)) (F : FunD K "__init__" "Room.__init__" (defArgs (inClass (top 12) 0)) (defBody (inClass (top 12) 0)) (defScope (inClass (top 12) 0)) [] [] f fd) (T : Txt K mg C) (gB : MtG P w K mg base C "begin" 1 ["self", "trays", "clerks"] (spBegin C)) :
    MkG P w K mg base C "Room" 2 ["self", "trays", "clerks"] (spInit C) := by
  refine ⟨f, fd, M, hm, F.bindsN (fun _ _ _ _ _ _ us hl => match us, hl with | [_, _, _], _ => rfl), F.ok sc_init (fun vs H Q E h => ?_) fun cdv A outer s H vs Q E hr h => ?_⟩
  · obtain ⟨_, _, _, _, rfl, _⟩ := h
    rfl
  · obtain ⟨a, dx, t, c, rfl, h0, t1, t4, c1, c3, k⟩ := h
    refine ⟨_, PSs.nox (pss_one (ps_expr (pe_mt gB T.cl hr (pv 0) (pa_cons (pv 1) (pa_cons (pv 2) pa_nil))))), ?_⟩
    exact ⟨_, rfl, a, dx, _, rfl, h0, rfl, _, rfl, _, rfl, a, dx, [], t, c, rfl, h0, .inl rfl, t1, t4, c1, c3, k⟩

theorem facts (KX : K.In h) (c : SaysA K) (G : h.Ns mainGlobals mg) :
    ∃ fd : FuncData, (∀ (s : Shared) (us : List Value), us.length = (["calls"] : List Str).length → BindsTo s fd ⟨us, []⟩ ((["calls"] : List Str).zip us)) ∧ ∀ base : Heap, K.In base → base.Ns mainGlobals mg → FnOk P w K mg base CX0 9 (He.ga K "answers") fd ["calls"] (spAns K) := by
  obtain ⟨fd, F⟩ := c.1.def_ 58 (d := dG "answers" 78) rfl
  have b := FunD.bindsA (ps := ["calls"]) F fun _ _ _ _ _ _ us hl => match us, hl with | [_], _ => rfl
  refine ⟨fd, fun s us hl => b s us hl, fun base _ _ => ?_⟩
  have T := txt_of KX c G
  have size := g_size (P := P) (w := w) (base := base) (def_of KX c G (x := "is_room_size") (i := 6) 3 16 rfl rfl)
  have number := g_number (P := P) (w := w) (base := base) (def_of KX c G (x := "is_card_number") (i := 7) 4 17 rfl rfl)
  have key := g_key (P := P) (w := w) (base := base) (def_of KX c G (x := "is_key") (i := 8) 5 18 rfl rfl)
  have place := g_place (P := P) (w := w) (base := base) (def_of KX c G (x := "is_place") (i := 9) 6 19 rfl rfl)
  have hplace := g_hplace (P := P) (w := w) (base := base) (def_of KX c G (x := "is_hand_place") (i := 10) 7 20 rfl rfl)
  have who := g_who (P := P) (w := w) (base := base) (def_of KX c G (x := "is_borrower") (i := 11) 8 21 rfl rfl)
  have mT := m_has_tray (P := P) (w := w) (base := base) (met_of c (m := "has_tray") (q := "Room.has_tray") (i := 12) (n := 2) 11 9 rfl rfl) T
  have mC := m_has_clerk (P := P) (w := w) (base := base) (met_of c (m := "has_clerk") (q := "Room.has_clerk") (i := 12) (n := 3) 12 10 rfl rfl) T
  have mH := m_home (P := P) (w := w) (base := base) (met_of c (m := "home_of") (q := "Room.home_of") (i := 12) (n := 4) 13 11 rfl rfl) T
  have mK := m_key (P := P) (w := w) (base := base) (met_of c (m := "key_of") (q := "Room.key_of") (i := 12) (n := 5) 14 12 rfl rfl) T
  have mB := m_begin (P := P) (w := w) (base := base) (met_of c (m := "begin") (q := "Room.begin") (i := 12) (n := 1) 10 8 rfl rfl) T
  obtain ⟨fdI, FI⟩ := c.1.def_ 9 (d := dM "__init__" "Room.__init__" 12 0) rfl
  have mk := mk_room (P := P) (w := w) (base := base) (He.mkr_ok (c.1.fact 1 (f := .mkr "Room") rfl)) (He.glo_ok KX G (c.1.fact 22 (f := .glo "Room") rfl)) FI T mB
  have full_hand := g_full_hand (P := P) (w := w) (base := base) (def_of KX c G (x := "is_hand_full") (i := 22) 15 23 rfl rfl) T
  have full_log := g_full_log (P := P) (w := w) (base := base) (def_of KX c G (x := "is_journal_full") (i := 23) 16 24 rfl rfl) T
  have without := g_without (P := P) (w := w) (base := base) (def_of KX c G (x := "without") (i := 24) 17 25 rfl rfl)
  have add := g_add (P := P) (w := w) (base := base) (def_of KX c G (x := "add_card") (i := 25) 18 26 rfl rfl) T number key mT full_log
  have take := g_take (P := P) (w := w) (base := base) (def_of KX c G (x := "take_card") (i := 26) 19 27 rfl rfl) T place mC mT full_hand full_log
  have put := g_put (P := P) (w := w) (base := base) (def_of KX c G (x := "put_card") (i := 27) 20 28 rfl rfl) T place hplace mC mT full_log
  have lend := g_lend (P := P) (w := w) (base := base) (def_of KX c G (x := "lend_card") (i := 28) 21 29 rfl rfl) T who hplace mC full_log
  have back := g_back (P := P) (w := w) (base := base) (def_of KX c G (x := "get_back") (i := 29) 22 30 rfl rfl) T number mC full_hand full_log
  have lose := g_lose (P := P) (w := w) (base := base) (def_of KX c G (x := "lose_card") (i := 30) 23 31 rfl rfl) T number full_log without
  have find := g_find (P := P) (w := w) (base := base) (def_of KX c G (x := "find_card") (i := 31) 24 32 rfl rfl) T number mT full_log
  have try_ := g_try (P := P) (w := w) (base := base) (def_of KX c G (x := "try_step") (i := 32) 25 33 rfl rfl) add take put lend back lose find
  have do_ := g_do (P := P) (w := w) (base := base) (def_of KX c G (x := "do_step") (i := 33) 26 34 rfl rfl) T try_
  have counted := g_counted (P := P) (w := w) (base := base) (def_of KX c G (x := "counted") (i := 1) 0 13 rfl rfl) T
  have rows := g_counted_rows (P := P) (w := w) (base := base) (def_of KX c G (x := "counted_rows") (i := 2) 1 14 rfl rfl) T
  have spot := g_spot (P := P) (w := w) (base := base) (def_of KX c G (x := "spot_in") (i := 3) 2 15 rfl rfl) T
  have tlog := g_tell_log (P := P) (w := w) (base := base) (def_of KX c G (x := "tell_log") (i := 36) 27 35 rfl rfl) T rows
  have undo := g_undo_step (P := P) (w := w) (base := base) (def_of KX c G (x := "undo_step") (i := 37) 28 36 rfl rfl) T mB do_
  have holds := g_all_it_holds (P := P) (w := w) (base := base) (def_of KX c G (x := "all_it_holds") (i := 38) 29 37 rfl rfl) T
  have can := g_can_be_done (P := P) (w := w) (base := base) (def_of KX c G (x := "can_be_done_to_the_same") (i := 39) 30 38 rfl rfl) T mk do_ holds
  have exch := g_try_exchange (P := P) (w := w) (base := base) (def_of KX c G (x := "try_exchange") (i := 40) 31 39 rfl rfl) T can
  have jour := g_answer_of_journal (P := P) (w := w) (base := base) (def_of KX c G (x := "answer_of_journal") (i := 41) 32 40 rfl rfl) tlog undo exch
  have isr := g_is_right (P := P) (w := w) (base := base) (def_of KX c G (x := "is_right") (i := 43) 33 41 rfl rfl) T mH mK
  have tright := g_tell_right (P := P) (w := w) (base := base) (def_of KX c G (x := "tell_right") (i := 44) 34 42 rfl rfl) T isr
  have lens := g_lengths_from (P := P) (w := w) (base := base) (def_of KX c G (x := "lengths_from") (i := 45) 35 43 rfl rfl) T
  have follow := g_may_follow (P := P) (w := w) (base := base) (def_of KX c G (x := "may_follow") (i := 46) 36 44 rfl rfl) T mK
  have stay := g_staying_cards (P := P) (w := w) (base := base) (def_of KX c G (x := "staying_cards") (i := 47) 37 45 rfl rfl) T mH mK lens follow
  have tstay := g_tell_staying (P := P) (w := w) (base := base) (def_of KX c G (x := "tell_staying") (i := 48) 38 46 rfl rfl) T mT counted stay
  have allstay := g_all_staying (P := P) (w := w) (base := base) (def_of KX c G (x := "all_staying") (i := 49) 39 47 rfl rfl) T stay
  have tomove := g_cards_to_move (P := P) (w := w) (base := base) (def_of KX c G (x := "cards_to_move") (i := 50) 40 48 rfl rfl) T allstay
  have tleast := g_tell_least (P := P) (w := w) (base := base) (def_of KX c G (x := "tell_least") (i := 51) 41 49 rfl rfl) T tomove
  have pah := g_place_at_home (P := P) (w := w) (base := base) (def_of KX c G (x := "place_at_home") (i := 52) 42 50 rfl rfl) T mK
  have tplan := g_tell_plan (P := P) (w := w) (base := base) (def_of KX c G (x := "tell_plan") (i := 53) 43 51 rfl rfl) T allstay tomove spot mH pah rows
  have order := g_answer_of_order (P := P) (w := w) (base := base) (def_of KX c G (x := "answer_of_order") (i := 54) 44 52 rfl rfl) tright tleast tplan tstay
  have where_ := g_where (P := P) (w := w) (base := base) (def_of KX c G (x := "where_is") (i := 62) 45 53 rfl rfl) T number spot
  have stray := g_show_tray (P := P) (w := w) (base := base) (def_of KX c G (x := "show_tray") (i := 63) 46 54 rfl rfl) T mT counted
  have shand := g_show_hand (P := P) (w := w) (base := base) (def_of KX c G (x := "show_hand") (i := 64) 47 55 rfl rfl) T mC counted
  have ask := g_ask (P := P) (w := w) (base := base) (def_of KX c G (x := "ask_tray") (i := 65) 48 56 rfl rfl) T mT key mK mH counted
  have dbl := g_tell_doubles (P := P) (w := w) (base := base) (def_of KX c G (x := "tell_doubles") (i := 66) 49 57 rfl rfl) T rows
  have seen := g_is_seen_list (P := P) (w := w) (base := base) (def_of KX c G (x := "is_seen_list") (i := 67) 50 58 rfl rfl) T number
  have inv := g_take_inventory (P := P) (w := w) (base := base) (def_of KX c G (x := "take_inventory") (i := 68) 51 59 rfl rfl) T mT seen counted
  have cnts := g_tell_counts (P := P) (w := w) (base := base) (def_of KX c G (x := "tell_counts") (i := 69) 52 60 rfl rfl) T
  have miss := g_tell_missing (P := P) (w := w) (base := base) (def_of KX c G (x := "tell_missing") (i := 70) 53 61 rfl rfl) T counted spot
  have quest := g_answer_question (P := P) (w := w) (base := base) (def_of KX c G (x := "answer_question") (i := 71) 54 62 rfl rfl) where_ stray shand ask dbl inv cnts miss
  have broom := g_begin_room (P := P) (w := w) (base := base) (def_of KX c G (x := "begin_room") (i := 75) 55 63 rfl rfl) T size mB
  have acall := g_answer_call (P := P) (w := w) (base := base) (def_of KX c G (x := "answer_call") (i := 76) 56 64 rfl rfl) broom do_ order jour quest
  have eoc := g_end_of_call (P := P) (w := w) (base := base) (def_of KX c G (x := "end_of_call") (i := 77) 57 65 rfl rfl) T
  exact ok_answers F T mk eoc acall
end
end Cc
theorem PySem.Challenge.cw_cardclerks_s01_answers_holds : PySem.Challenge.rw_cardclerks_s01_answers.Holds :=
  Cc.holds_of 9 ⟨rfl, by decide, by decide⟩ fun w mg h K KX c G => Cc.facts KX c G

