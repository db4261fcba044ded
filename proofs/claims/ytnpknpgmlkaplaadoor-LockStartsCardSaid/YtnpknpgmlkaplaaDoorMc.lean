/- A machine of a lock: how it starts, how it joins: the program's way, and the document's. -/
import Derived.Test.YtnpknpgmlkaplaaDoorTkFirst
import Derived.Test.YtnpknpgmlkaplaaDoorKeyRef
import Derived.Test.YtnpknpgmlkaplaaDoorRowOwn
namespace Go.Proofs.YtnpknpgmlkaplaaDoor.P
open Go.RowKit Go.Sort
set_option maxHeartbeats 4000000
set_option linter.unusedVariables false
set_option linter.unusedSimpArgs false
set_option maxRecDepth 100000

structure Mc where
  kind : Int
  name : ByteArray
  n : Int
  val : ByteArray
  key : ByteArray
  lease : Int
  phase : Int
  tok : Int
  rev : Int
  err : Int
abbrev mcc (m : Mc) : Array Value := #[.int .i64 m.kind, .string m.name, .int .i64 m.n, .string m.val, .string m.key, .int .i64 m.lease, .int .i64 m.phase, .int .i64 m.tok, .int .i64 m.rev, .int .i64 m.err]
abbrev Mc.agg (m : Mc) : Value := .agg (mcc m)
structure Mc.ok (m : Mc) : Prop where
  kind : inI m.kind
  name : m.name.size ≤ maxLen
  n : inI m.n
  val : m.val.size ≤ maxLen
  key : m.key.size ≤ maxLen
  lease : inI m.lease
  phase : inI m.phase
  tok : inI m.tok
  rev : inI m.rev
  err : inI m.err
def zMc : Mc := ⟨0, ⟨#[]⟩, 0, ⟨#[]⟩, ⟨#[]⟩, 0, 0, 0, 0, 0⟩
abbrev zMcc : Array Value := #[.int .i64 0, .string ⟨#[]⟩, .int .i64 0, .string ⟨#[]⟩, .string ⟨#[]⟩, .int .i64 0, .int .i64 0, .int .i64 0, .int .i64 0, .int .i64 0]
/-- May there be a machine of these? -/
def mayK (kind : Int) (name : ByteArray) (n : Int) (v : ByteArray) : Bool :=
  nameL name.data.toList && (if kind = 4 then decide (1 ≤ n ∧ n ≤ 100) else if kind = 5 then decide (v.size ≤ 20) else decide (1 ≤ kind ∧ kind ≤ 3))
def startL (kind : Int) (name : ByteArray) (n : Int) (v : ByteArray) : Mc × Bool :=
  if mayK kind name n v = true then (⟨kind, name, if kind = 4 then n else 0, if kind = 5 then v else signB kind, ⟨#[]⟩, 0, 1, 0, 0, 0⟩, true) else (zMc, false)
def StartEnd (r : Mc × Bool) (w : World) (e : Ending) (w' : World) : Prop := e = .returned (.tuple #[r.1.agg, .bool r.2]) ∧ Below w.heap.size w w'
theorem mayk_any (kind : Int) (name : ByteArray) (n : Int) (v : ByteArray) (w : World) (hn : name.size ≤ maxLen) (hv : v.size ≤ maxLen) :
    Calls Tryd.prog 18 #[.int .i64 kind, .string name, .int .i64 n, .string v] w fun e w' => e = .returned (.bool (mayK kind name n v)) ∧ Below w.heap.size w w' := by
  unfold maxLen at hv
  have hv1 : (v.size : Int) ≤ 9223372036854775807 := by omega
  cases hnm : nameL name.data.toList with
  | false =>
    have HV := Lib.hid (show mayK kind name n v = false by unfold mayK; rw [hnm]; rfl)
    have c1 := name_no name w hn hnm
    clear hnm hn
    go_enter Tryd.func18, Tryd.ntmps18
    go_wp2_with fail
    refine c1.mono ?_; rintro e w1 ⟨rfl, hb⟩
    have B1 := Lib.hid hb
    clear hb c1
    go_wp2
    go_ret
    exact ⟨by rw [HV.out]; rfl, B1.out⟩
  | true =>
    have c1 := name_yes name w hn hnm
    by_cases h4 : kind = 4
    · subst h4
      have HV := Lib.hid (show mayK 4 name n v = decide (1 ≤ n ∧ n ≤ 100) by unfold mayK; rw [hnm]; rfl)
      clear hnm hn
      by_cases n1 : 1 ≤ n
      · have n1b : decide (1 ≤ n) = true := decide_eq_true n1
        by_cases n2 : n ≤ 100
        · have n2b : decide (n ≤ 100) = true := decide_eq_true n2
          have HX := Lib.hid (HV.out.trans (decide_eq_true ⟨n1, n2⟩))
          go_enter Tryd.func18, Tryd.ntmps18
          go_wp2_with fail
          refine c1.mono ?_; rintro e w1 ⟨rfl, hb⟩
          have B1 := Lib.hid hb
          clear hb c1
          go_wp2
          go_ret
          exact ⟨by rw [HX.out]; rfl, B1.out⟩
        · have n2b : decide (n ≤ 100) = false := decide_eq_false n2
          have HX := Lib.hid (HV.out.trans (decide_eq_false (fun h => n2 h.2)))
          go_enter Tryd.func18, Tryd.ntmps18
          go_wp2_with fail
          refine c1.mono ?_; rintro e w1 ⟨rfl, hb⟩
          have B1 := Lib.hid hb
          clear hb c1
          go_wp2
          go_ret
          exact ⟨by rw [HX.out]; rfl, B1.out⟩
      · have n1b : decide (1 ≤ n) = false := decide_eq_false n1
        have HX := Lib.hid (HV.out.trans (decide_eq_false (fun h => n1 h.1)))
        go_enter Tryd.func18, Tryd.ntmps18
        go_wp2_with fail
        refine c1.mono ?_; rintro e w1 ⟨rfl, hb⟩
        have B1 := Lib.hid hb
        clear hb c1
        go_wp2
        go_ret
        exact ⟨by rw [HX.out]; rfl, B1.out⟩
    · by_cases h5 : kind = 5
      · subst h5
        have HV := Lib.hid (show mayK 5 name n v = decide (v.size ≤ 20) by unfold mayK; rw [hnm]; rfl)
        clear hnm hn h4
        by_cases v1 : v.size ≤ 20
        · have v1b : decide ((v.size : Int) ≤ 20) = true := decide_eq_true (by omega)
          have v1c : (v.size : Int) ≤ 20 := by omega
          have HX := Lib.hid (HV.out.trans (decide_eq_true v1))
          go_enter Tryd.func18, Tryd.ntmps18
          go_wp2_with fail
          refine c1.mono ?_; rintro e w1 ⟨rfl, hb⟩
          have B1 := Lib.hid hb
          clear hb c1
          go_wp2
          go_ret
          exact ⟨by rw [HX.out]; rfl, B1.out⟩
        · have v1b : decide ((v.size : Int) ≤ 20) = false := decide_eq_false (by omega)
          have v1c : ¬ ((v.size : Int) ≤ 20) := by omega
          have HX := Lib.hid (HV.out.trans (decide_eq_false v1))
          go_enter Tryd.func18, Tryd.ntmps18
          go_wp2_with fail
          refine c1.mono ?_; rintro e w1 ⟨rfl, hb⟩
          have B1 := Lib.hid hb
          clear hb c1
          go_wp2
          go_ret
          exact ⟨by rw [HX.out]; rfl, B1.out⟩
      · have HV := Lib.hid (show mayK kind name n v = decide (1 ≤ kind ∧ kind ≤ 3) by unfold mayK; rw [hnm, if_neg h4, if_neg h5]; rfl)
        clear hnm hn
        by_cases h123 : kind = 1 ∨ kind = 2 ∨ kind = 3
        · have HX := Lib.hid (HV.out.trans (decide_eq_true (by omega)))
          rcases h123 with rfl | rfl | rfl
          all_goals
            clear h4 h5
            go_enter Tryd.func18, Tryd.ntmps18
            go_wp2_with fail
            refine c1.mono ?_; rintro e w1 ⟨rfl, hb⟩
            have B1 := Lib.hid hb
            clear hb c1
            go_wp2
            go_ret
            exact ⟨by rw [HX.out]; rfl, B1.out⟩
        · have HX := Lib.hid (HV.out.trans (decide_eq_false (by omega)))
          have k1 : (kind == 1) = false := by rw [beq_eq_false_iff_ne]; omega
          have k2 : (kind == 2) = false := by rw [beq_eq_false_iff_ne]; omega
          have k3 : (kind == 3) = false := by rw [beq_eq_false_iff_ne]; omega
          have k4 : (kind == 4) = false := by rw [beq_eq_false_iff_ne]; omega
          have k5 : (kind == 5) = false := by rw [beq_eq_false_iff_ne]; omega
          clear h4 h5 h123
          go_enter Tryd.func18, Tryd.ntmps18
          go_wp2_with fail
          refine c1.mono ?_; rintro e w1 ⟨rfl, hb⟩
          have B1 := Lib.hid hb
          clear hb c1
          go_wp2
          go_ret
          exact ⟨by rw [HX.out]; rfl, B1.out⟩
end Go.Proofs.YtnpknpgmlkaplaaDoor.P
