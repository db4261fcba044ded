/- For every reply and every text the law WireTells answers true: whether it may be, its bytes, and the reply of the bytes. No condition. -/
import Derived.Test.YtefldchhopgliabWireRefTold
import Derived.Lib.QuietBelow
import Derived.Test.YtefldchhopgliabRows
namespace Go.Proofs.Ytefldchhopgliab.P
open Go.RowKit Go.Lib Go.Sort
/-- A whole row loaded in a quiet walk: one value, in every world of the class. -/
theorem quiet_row {P : Program} {C : World → Prop} {K : Act → Prop} {a : Act} {o : Oper} (ty : TypeId) (x : Operand) (ho : o.op = .load ty x) (g : Nat) (hx : a.eval x = .pointer (some ⟨g, 0, none⟩)) (t : TypeId) (cs : Array Value) (d : TypeDesc)
    (hg : ∀ w, C w → w.heap[g]? = some (.cells cs t (0, 0))) (hu : P.underlying ty = some d) (hd : (match d with | .struct _ | .array _ _ => true | _ => false) = true) (hi : (P.info? ty).map (·.size) = some cs.size)
    (h : K (a.put o.dst (.agg cs))) : o.quiet P a C K :=
  ⟨.agg cs, fun w hw => by
    unfold Oper.quietAt execOp
    simp only [ho, hx, Instr.loadAt, Instr.sureAddr, Sem.run_bind, Sem.run_pure, Result.andThen_ok, run_loadVar_row w g t ty cs (0, 0) d (hg w hw) hu hd hi]
    exact ⟨rfl, rfl⟩, h⟩
theorem Own.held {w : World} {g : Nat} {t : TypeId} {cs : Array Value} (h : Own w g t cs) : ∀ w', (∃ p : Regrown, w' = grow (redrawn w p.d) p.os) → w'.heap[g]? = some (.cells cs t (0, 0)) := by
  rintro w' ⟨p, rfl⟩
  exact (h.below (below_regrown w p.d p.os)).ex
end Go.Proofs.Ytefldchhopgliab.P
namespace Go.Proofs.Ytefldchhopgliab.wireTells
open Go.ChangeShapes Go.WideShapes Go.ChangeAt Go.RowKit Go.Lib Go.Sort Go.Proofs.Ytefldchhopgliab.P
open Go.ChangeMaps (open_string shut_string)
set_option linter.unusedVariables false
set_option linter.unusedSimpArgs false
set_option maxHeartbeats 2000000
set_option maxRecDepth 100000

theorem long0 (w : World) (y0 : Rp) (A0 : Option Addr) (n0 c0 : Nat) (B0 : Option Addr) (m0 d0 : Nat) (a1 : ByteArray) (k0 : RpAt w y0 A0 n0 c0 B0 m0 d0) (w1 : a1.size ≤ maxLen) (hs : fewT 40 shKV y0.kvs = false) :
    Calls Try.prog 4 #[y0.agg A0 n0 c0 B0 m0 d0, .string a1] w fun e w' => e = .returned (.bool true) ∧ Below w.heap.size w w' := by
  have HS := Lib.hid hs; clear hs
  have K_0 := Lib.hid (k0.keep (new1 w (.cells #[.int .i64 y0.code, .int .i64 y0.who, .int .i64 y0.seq, .int .i64 y0.rev, .int .i64 y0.lease, .int .i64 y0.ttl, .bool y0.yes, .slice A0 n0 c0, .slice B0 m0 d0] 40)))
  have O_0 := Lib.hid (own_new w #[.int .i64 y0.code, .int .i64 y0.who, .int .i64 y0.seq, .int .i64 y0.rev, .int .i64 y0.lease, .int .i64 y0.ttl, .bool y0.yes, .slice A0 n0 c0, .slice B0 m0 d0] 40)
  have B_0 := Lib.hid (new1 w (.cells #[.int .i64 y0.code, .int .i64 y0.who, .int .i64 y0.seq, .int .i64 y0.rev, .int .i64 y0.lease, .int .i64 y0.ttl, .bool y0.yes, .slice A0 n0 c0, .slice B0 m0 d0] 40))
  clear k0
  go_enter Try.func4, Try.ntmps4
  go_wp2_with fail
  refine (few_rows A0 n0 c0 y0.kvs 40 _ K_0.out.r0 K_0.out.ok.kvs (by omega)).mono ?_; rintro e w' ⟨rfl, rfl⟩
  rw [HS.out]
  go_wp2_with fail
  refine (live_any _).mono ?_; rintro e w1 ⟨rfl, hb⟩
  have S_1 := Lib.hid hb; clear hb
  have K_2 := Lib.hid (K_0.out.keep S_1.out)
  have O_3 := Lib.hid (O_0.out.below S_1.out)
  have B_4 := Lib.hid (then_ B_0.out S_1.out)
  clear K_0 O_0 B_0
  clear S_1
  go_wp2
  go_ret
  exact ⟨rfl, B_4.out⟩

theorem long1 (w : World) (y0 : Rp) (A0 : Option Addr) (n0 c0 : Nat) (B0 : Option Addr) (m0 d0 : Nat) (a1 : ByteArray) (k0 : RpAt w y0 A0 n0 c0 B0 m0 d0) (w1 : a1.size ≤ maxLen) (hs : fewT 40 shKV y0.kvs = true) (hs2 : fewT 40 shEv y0.evs = false) :
    Calls Try.prog 4 #[y0.agg A0 n0 c0 B0 m0 d0, .string a1] w fun e w' => e = .returned (.bool true) ∧ Below w.heap.size w w' := by
  have HS := Lib.hid hs; clear hs
  have HS2 := Lib.hid hs2; clear hs2
  have K_0 := Lib.hid (k0.keep (new1 w (.cells #[.int .i64 y0.code, .int .i64 y0.who, .int .i64 y0.seq, .int .i64 y0.rev, .int .i64 y0.lease, .int .i64 y0.ttl, .bool y0.yes, .slice A0 n0 c0, .slice B0 m0 d0] 40)))
  have O_0 := Lib.hid (own_new w #[.int .i64 y0.code, .int .i64 y0.who, .int .i64 y0.seq, .int .i64 y0.rev, .int .i64 y0.lease, .int .i64 y0.ttl, .bool y0.yes, .slice A0 n0 c0, .slice B0 m0 d0] 40)
  have B_0 := Lib.hid (new1 w (.cells #[.int .i64 y0.code, .int .i64 y0.who, .int .i64 y0.seq, .int .i64 y0.rev, .int .i64 y0.lease, .int .i64 y0.ttl, .bool y0.yes, .slice A0 n0 c0, .slice B0 m0 d0] 40))
  clear k0
  go_enter Try.func4, Try.ntmps4
  go_wp2_with fail
  refine (few_rows A0 n0 c0 y0.kvs 40 _ K_0.out.r0 K_0.out.ok.kvs (by omega)).mono ?_; rintro e w' ⟨rfl, rfl⟩
  rw [HS.out]
  go_wp2_with fail
  refine (fewe_rows B0 m0 d0 y0.evs 40 _ K_0.out.r1 K_0.out.ok.evs (by omega)).mono ?_; rintro e w' ⟨rfl, rfl⟩
  rw [HS2.out]
  go_wp2_with fail
  refine (live_any _).mono ?_; rintro e w1 ⟨rfl, hb⟩
  have S_1 := Lib.hid hb; clear hb
  have K_2 := Lib.hid (K_0.out.keep S_1.out)
  have O_3 := Lib.hid (O_0.out.below S_1.out)
  have B_4 := Lib.hid (then_ B_0.out S_1.out)
  clear K_0 O_0 B_0
  clear S_1
  go_wp2
  go_ret
  exact ⟨rfl, B_4.out⟩

theorem wide (w : World) (y0 : Rp) (A0 : Option Addr) (n0 c0 : Nat) (B0 : Option Addr) (m0 d0 : Nat) (a1 : ByteArray) (k0 : RpAt w y0 A0 n0 c0 B0 m0 d0) (w1 : a1.size ≤ maxLen) (hs : fewT 40 shKV y0.kvs = true) (hs2 : fewT 40 shEv y0.evs = true) (hz : ¬ a1.size ≤ 3000) :
    Calls Try.prog 4 #[y0.agg A0 n0 c0 B0 m0 d0, .string a1] w fun e w' => e = .returned (.bool true) ∧ Below w.heap.size w w' := by
  have HS := Lib.hid hs; clear hs
  have HS2 := Lib.hid hs2; clear hs2
  unfold maxLen at w1
  have K_0 := Lib.hid (k0.keep (new1 w (.cells #[.int .i64 y0.code, .int .i64 y0.who, .int .i64 y0.seq, .int .i64 y0.rev, .int .i64 y0.lease, .int .i64 y0.ttl, .bool y0.yes, .slice A0 n0 c0, .slice B0 m0 d0] 40)))
  have O_0 := Lib.hid (own_new w #[.int .i64 y0.code, .int .i64 y0.who, .int .i64 y0.seq, .int .i64 y0.rev, .int .i64 y0.lease, .int .i64 y0.ttl, .bool y0.yes, .slice A0 n0 c0, .slice B0 m0 d0] 40)
  have B_0 := Lib.hid (new1 w (.cells #[.int .i64 y0.code, .int .i64 y0.who, .int .i64 y0.seq, .int .i64 y0.rev, .int .i64 y0.lease, .int .i64 y0.ttl, .bool y0.yes, .slice A0 n0 c0, .slice B0 m0 d0] 40))
  clear k0
  go_enter Try.func4, Try.ntmps4
  go_wp2_with fail
  refine (few_rows A0 n0 c0 y0.kvs 40 _ K_0.out.r0 K_0.out.ok.kvs (by omega)).mono ?_; rintro e w' ⟨rfl, rfl⟩
  rw [HS.out]
  go_wp2_with fail
  refine (fewe_rows B0 m0 d0 y0.evs 40 _ K_0.out.r1 K_0.out.ok.evs (by omega)).mono ?_; rintro e w' ⟨rfl, rfl⟩
  rw [HS2.out]
  go_wp2_with fail
  refine (live_any _).mono ?_; rintro e w1 ⟨rfl, hb⟩
  have S_1 := Lib.hid hb; clear hb
  have K_2 := Lib.hid (K_0.out.keep S_1.out)
  have O_3 := Lib.hid (O_0.out.below S_1.out)
  have B_4 := Lib.hid (then_ B_0.out S_1.out)
  clear K_0 O_0 B_0
  clear S_1
  go_wp2
  go_ret
  exact ⟨rfl, B_4.out⟩

theorem main (w : World) (y0 : Rp) (A0 : Option Addr) (n0 c0 : Nat) (B0 : Option Addr) (m0 d0 : Nat) (a1 : ByteArray) (k0 : RpAt w y0 A0 n0 c0 B0 m0 d0) (w1 : a1.size ≤ maxLen) (hs : fewT 40 shKV y0.kvs = true) (hs2 : fewT 40 shEv y0.evs = true) (hz : a1.size ≤ 3000) :
    Calls Try.prog 4 #[y0.agg A0 n0 c0 B0 m0 d0, .string a1] w fun e w' => e = .returned (.bool true) ∧ Below w.heap.size w w' := by
  have HS := Lib.hid hs; clear hs
  have HS2 := Lib.hid hs2; clear hs2
  have hbb : ∀ b : Bool, (b == b) = true := fun b => by simp
  have hii : ∀ b : ByteArray, (b.toList == b.toList) = true := fun b => by simp
  have CA := Lib.hid (fun w => told__any a1 w (by omega))
  have CB := Lib.hid (fun w => rtold_any a1 w (by omega))
  unfold RpEnd at CA CB
  generalize toldV a1 = V at CA CB
  obtain ⟨z, zb⟩ := V
  simp only at CA CB
  have K_0 := Lib.hid (k0.keep (new1 w (.cells #[.int .i64 y0.code, .int .i64 y0.who, .int .i64 y0.seq, .int .i64 y0.rev, .int .i64 y0.lease, .int .i64 y0.ttl, .bool y0.yes, .slice A0 n0 c0, .slice B0 m0 d0] 40)))
  have O_0 := Lib.hid (own_new w #[.int .i64 y0.code, .int .i64 y0.who, .int .i64 y0.seq, .int .i64 y0.rev, .int .i64 y0.lease, .int .i64 y0.ttl, .bool y0.yes, .slice A0 n0 c0, .slice B0 m0 d0] 40)
  have B_0 := Lib.hid (new1 w (.cells #[.int .i64 y0.code, .int .i64 y0.who, .int .i64 y0.seq, .int .i64 y0.rev, .int .i64 y0.lease, .int .i64 y0.ttl, .bool y0.yes, .slice A0 n0 c0, .slice B0 m0 d0] 40))
  clear k0
  obtain ⟨tx, htx⟩ : ∃ tx, tx = tellB y0 := ⟨_, rfl⟩
  obtain ⟨mx, hmx⟩ : ∃ mx, mx = mayTellB y0 := ⟨_, rfl⟩
  have CP := Lib.hid (fun w h => tell_any y0 A0 n0 c0 B0 m0 d0 w h)
  have CQ := Lib.hid (fun w h => rrtell_any y0 A0 n0 c0 B0 m0 d0 w h)
  have CM := Lib.hid (fun w h => mayTell_any y0 A0 n0 c0 B0 m0 d0 w h)
  have CR := Lib.hid (fun w h => rTell_any y0 A0 n0 c0 B0 m0 d0 w h)
  rw [← htx, ← hmx] at CP CQ
  rw [← hmx] at CM CR
  clear htx hmx
  go_enter Try.func4, Try.ntmps4
  have f7 := O_0.out.cell 7 _ rfl
  have f8 := O_0.out.cell 8 _ rfl
  go_wp2_with fail
  refine (few_rows A0 n0 c0 y0.kvs 40 _ K_0.out.r0 K_0.out.ok.kvs (by omega)).mono ?_; rintro e w' ⟨rfl, rfl⟩
  rw [HS.out]
  go_wp2_with fail
  refine (fewe_rows B0 m0 d0 y0.evs 40 _ K_0.out.r1 K_0.out.ok.evs (by omega)).mono ?_; rintro e w' ⟨rfl, rfl⟩
  rw [HS2.out]
  clear f7 f8
  generalize hv0 : w.alloc (.cells #[.int .i64 y0.code, .int .i64 y0.who, .int .i64 y0.seq, .int .i64 y0.rev, .int .i64 y0.lease, .int .i64 y0.ttl, .bool y0.yes, .slice A0 n0 c0, .slice B0 m0 d0] 40) = v0 at *
  clear hv0
  go_wp2_with (first | (refine wpList_load_row rfl 40 _ rfl _ rfl 40 _ (0, 0) _ O_0.out.ex Try.underlying40 rfl (by kernel_rfl) ?_))
  refine (CP.out _ K_0.out).mono ?_; rintro e w1 ⟨rfl, hb⟩
  have O_1 := Lib.hid (O_0.out.below hb)
  have K_1 := Lib.hid (K_0.out.keep hb)
  have B_1 := Lib.hid (then_ B_0.out hb)
  clear O_0 K_0 B_0
  clear hb
  go_wp2_with (first | (refine wpList_load_row rfl 40 _ rfl _ rfl 40 _ (0, 0) _ O_1.out.ex Try.underlying40 rfl (by kernel_rfl) ?_))
  refine (CQ.out _ K_1.out).mono ?_; rintro e w2 ⟨rfl, hb⟩
  have O_2 := Lib.hid (O_1.out.below hb)
  have K_2 := Lib.hid (K_1.out.keep hb)
  have B_2 := Lib.hid (then_ B_1.out hb)
  clear O_1 K_1 B_1
  clear hb
  go_wp2_with fail
  refine (CA.out _).mono ?_; rintro e w3 ⟨AP0, nP0, cP0, AP1, nP1, cP1, rfl, hat, hb⟩
  have O_3 := Lib.hid (O_2.out.below hb)
  have K_3 := Lib.hid (K_2.out.keep hb)
  have B_3 := Lib.hid (then_ B_2.out hb)
  clear O_2 K_2 B_2
  have P_3 := Lib.hid hat
  clear hb hat
  have N := Lib.hid (own_new w3 #[.int .i64 0, .int .i64 0, .int .i64 0, .int .i64 0, .int .i64 0, .int .i64 0, .bool false, .slice none 0 0, .slice none 0 0] 40)
  have bz := below_setRow (new1 w3 (.cells #[.int .i64 0, .int .i64 0, .int .i64 0, .int .i64 0, .int .i64 0, .int .i64 0, .bool false, .slice none 0 0, .slice none 0 0] 40)) (Nat.le_refl _) #[.int .i64 z.code, .int .i64 z.who, .int .i64 z.seq, .int .i64 z.rev, .int .i64 z.lease, .int .i64 z.ttl, .bool z.yes, .slice AP0 nP0 cP0, .slice AP1 nP1 cP1]
  have O_4 := Lib.hid (O_3.out.below bz)
  have K_4 := Lib.hid (K_3.out.keep bz)
  have P_4 := Lib.hid (P_3.out.keep bz)
  have B_4 := Lib.hid (then_ B_3.out bz)
  clear O_3 K_3 P_3 B_3
  have R_4 := Lib.hid (N.out.row #[.int .i64 z.code, .int .i64 z.who, .int .i64 z.seq, .int .i64 z.rev, .int .i64 z.lease, .int .i64 z.ttl, .bool z.yes, .slice AP0 nP0 cP0, .slice AP1 nP1 cP1])
  clear bz
  go_wp2_with (first | (refine wpList_store_row rfl 40 _ _ rfl _ _ rfl rfl 40 _ N.out.ex (by kernel_rfl) rfl (by simp [Value.oneCell']) ?_))
  clear N
  generalize (w3.alloc (.cells #[.int .i64 0, .int .i64 0, .int .i64 0, .int .i64 0, .int .i64 0, .int .i64 0, .bool false, .slice none 0 0, .slice none 0 0] 40)).setRow w3.heap.size #[.int .i64 z.code, .int .i64 z.who, .int .i64 z.seq, .int .i64 z.rev, .int .i64 z.lease, .int .i64 z.ttl, .bool z.yes, .slice AP0 nP0 cP0, .slice AP1 nP1 cP1] = w4 at *
  refine (CB.out _).mono ?_; rintro e w5 ⟨AQ0, nQ0, cQ0, AQ1, nQ1, cQ1, rfl, hat, hb⟩
  have O_5 := Lib.hid (O_4.out.below hb)
  have R_5 := Lib.hid (R_4.out.below hb)
  have K_5 := Lib.hid (K_4.out.keep hb)
  have P_5 := Lib.hid (P_4.out.keep hb)
  have B_5 := Lib.hid (then_ B_4.out hb)
  clear O_4 R_4 K_4 P_4 B_4
  have Q_5 := Lib.hid hat
  clear hb hat
  have N := Lib.hid (own_new w5 #[.int .i64 0, .int .i64 0, .int .i64 0, .int .i64 0, .int .i64 0, .int .i64 0, .bool false, .slice none 0 0, .slice none 0 0] 40)
  have bz := below_setRow (new1 w5 (.cells #[.int .i64 0, .int .i64 0, .int .i64 0, .int .i64 0, .int .i64 0, .int .i64 0, .bool false, .slice none 0 0, .slice none 0 0] 40)) (Nat.le_refl _) #[.int .i64 z.code, .int .i64 z.who, .int .i64 z.seq, .int .i64 z.rev, .int .i64 z.lease, .int .i64 z.ttl, .bool z.yes, .slice AQ0 nQ0 cQ0, .slice AQ1 nQ1 cQ1]
  have O_6 := Lib.hid (O_5.out.below bz)
  have R_6 := Lib.hid (R_5.out.below bz)
  have K_6 := Lib.hid (K_5.out.keep bz)
  have P_6 := Lib.hid (P_5.out.keep bz)
  have Q_6 := Lib.hid (Q_5.out.keep bz)
  have B_6 := Lib.hid (then_ B_5.out bz)
  clear O_5 R_5 K_5 P_5 Q_5 B_5
  have U_6 := Lib.hid (N.out.row #[.int .i64 z.code, .int .i64 z.who, .int .i64 z.seq, .int .i64 z.rev, .int .i64 z.lease, .int .i64 z.ttl, .bool z.yes, .slice AQ0 nQ0 cQ0, .slice AQ1 nQ1 cQ1])
  clear bz
  go_upto_region 7 with (first | (refine wpList_store_row rfl 40 _ _ rfl _ _ rfl rfl 40 _ N.out.ex (by kernel_rfl) rfl (by simp [Value.oneCell']) ?_))
  try simp only [Act.put]
  clear N
  generalize (w5.alloc (.cells #[.int .i64 0, .int .i64 0, .int .i64 0, .int .i64 0, .int .i64 0, .int .i64 0, .bool false, .slice none 0 0, .slice none 0 0] 40)).setRow w5.heap.size #[.int .i64 z.code, .int .i64 z.who, .int .i64 z.seq, .int .i64 z.rev, .int .i64 z.lease, .int .i64 z.ttl, .bool z.yes, .slice AQ0 nQ0 cQ0, .slice AQ1 nQ1 cQ1] = w6 at *
  have cM := fun d os => Calls.regrown_of (d := d) (os := os) (w := w6) (CM.out _ (K_6.out.keep (below_regrown _ d os)))
  have cR := fun d os => Calls.regrown_of (d := d) (os := os) (w := w6) (CR.out _ (K_6.out.keep (below_regrown _ d os)))
  have cS := fun d os => Calls.regrown_of (d := d) (os := os) (w := w6) (alike_same z AP0 nP0 cP0 AP1 nP1 cP1 AQ0 nQ0 cQ0 AQ1 nQ1 cQ1 _ (P_6.out.keep (below_regrown _ d os)) (Q_6.out.keep (below_regrown _ d os)))
  have cL := fun d os => Calls.regrown_of (d := d) (os := os) (w := w6) (live_any _)
  have hm := hbb mx; have hz := hbb zb; have ht := hii tx
  clear hbb hii CA CB CP CQ CM CR
  refine wp_region_quiet_below (by kernel_rfl) (by kernel_rfl) ?_
  repeat (first | (go_big_quiet_want; refine quiet_row 40 _ rfl _ rfl 40 _ _ O_6.out.held Try.underlying40 rfl (by kernel_rfl) ?_; simp only [Act.put, List.setIfInBounds_toArray, List.set_cons_succ, List.set_cons_zero]; go_big_quiet_on) | (go_big_quiet_want; refine quiet_row 40 _ rfl _ rfl 40 _ _ R_6.out.held Try.underlying40 rfl (by kernel_rfl) ?_; simp only [Act.put, List.setIfInBounds_toArray, List.set_cons_succ, List.set_cons_zero]; go_big_quiet_on) | (go_big_quiet_want; refine quiet_row 40 _ rfl _ rfl 40 _ _ U_6.out.held Try.underlying40 rfl (by kernel_rfl) ?_; simp only [Act.put, List.setIfInBounds_toArray, List.set_cons_succ, List.set_cons_zero]; go_big_quiet_on) | go_big_quiet_step (first | (with_reducible exact cM _ _) | (with_reducible exact cR _ _) | (with_reducible exact cS _ _) | (with_reducible exact cL _ _)))
  refine wpQuiet_nil ?_
  intro w9 hw'
  have hb9 : Below w6.heap.size w6 w9 := by
    obtain ⟨⟨d', os⟩, rfl⟩ := hw'
    exact below_grow (Below.refl _ _) (Nat.le_refl _) _ _
  go_wp2
  go_ret
  exact ⟨rfl, then_ B_6.out hb9⟩

theorem walk (w : World) (y0 : Rp) (A0 : Option Addr) (n0 c0 : Nat) (B0 : Option Addr) (m0 d0 : Nat) (a1 : ByteArray) (k0 : RpAt w y0 A0 n0 c0 B0 m0 d0) (w1 : a1.size ≤ maxLen) :
    Calls Try.prog 4 #[y0.agg A0 n0 c0 B0 m0 d0, .string a1] w fun e w' => e = .returned (.bool true) ∧ Below w.heap.size w w' := by
  cases hs : fewT 40 shKV y0.kvs with
  | false => exact long0 w y0 A0 n0 c0 B0 m0 d0 a1 k0 w1 hs
  | true =>
    cases hs2 : fewT 40 shEv y0.evs with
    | false => exact long1 w y0 A0 n0 c0 B0 m0 d0 a1 k0 w1 hs hs2
    | true =>
      by_cases hz : a1.size ≤ 3000
      · exact main w y0 A0 n0 c0 B0 m0 d0 a1 k0 w1 hs hs2 hz
      · exact wide w y0 A0 n0 c0 B0 m0 d0 a1 k0 w1 hs hs2 hz

theorem own : ownKnob Try.prog.godebug = none := by kernel_rfl
theorem laidOut : laidOutB Try.prog = true := by kernel_rfl

set_option maxRecDepth 100000 in
theorem lifted (os : Os) (started : os.Started) (H : Type) (enc : TypeId × Value → H) :
    ReturnsInHanded {} Try.checked os 4 .any (Rows.wireTellsSpec.pre6 enc Try.prog Try.f4 Rows.wireTellsRow.domain false) (Rows.wireTellsSpec.post enc Try.prog Try.f4 false true false false) := by
  refine returnsInHanded_of_change (C := Try.checked) own started (by kernel_rfl) Try.func4
    (ChangeSpec.witness6 (enc := enc) (C := Try.checked) false ⟨#[], #[.agg #[.int .i64 0, .int .i64 0, .int .i64 0, .int .i64 0, .int .i64 0, .int .i64 0, .bool false, .slice none 0 0, .slice none 0 0], .string ByteArray.empty], []⟩ 8 (by kernel_rfl) (by kernel_rfl) (by kernel_rfl) (by kernel_rfl)) ?_
  intro W base args ds gs before hval0 hW hcnd _
  have hval : ∀ (j : Nat) t v, Try.f4.params[j]? = some t → args[j]? = some v → Value.okWide Try.prog W .any base t v := hval0
  have hW' := hW
  obtain ⟨p, q, hA0, hV, rfl, hfz, hnd⟩ := hW
  have hA : DataW.TrodAll enc Try.prog W 0 (fun _ => true) true Try.f4.params.toList args.toList ds p := hA0
  rw [Try.params4] at hA hval
  obtain ⟨v0, vs0, d0, ds0, p0, q0, hargs, rfl, rfl, h0, r0⟩ := trodAll_cons hA
  obtain ⟨v1, vs1, d1, ds1, p1, q1, rfl, rfl, rfl, h1, r1⟩ := trodAll_cons r0
  obtain ⟨rfl, rfl, rfl⟩ := trodAll_nil r1
  obtain rfl : args = #[v0, v1] := by cases args; simp_all
  obtain ⟨rfl, rfl⟩ := trodVars_none hV
  obtain ⟨y0, A0, n0, c0, B0, m0, d0, rfl, k0⟩ := open_rp (hval 0 40 v0 rfl rfl) h0
  obtain ⟨a1, rfl, rfl, rfl, w1⟩ := open_string Try.underlying9 (hval 1 9 v1 rfl rfl) h1
  clear hA0 hval0
  refine (walk W y0 A0 n0 c0 B0 m0 d0 a1 k0 w1).mono fun e W' ⟨he, bel⟩ => ?_
  subst he
  exact ⟨_, rfl, _, _, _, [], _, [], hW', trodAll_mk1 (shut_bool Try.underlying4 _), (trodAll_cons_mk (Below.trod laidOut (by kernel_rfl) (of_decide_eq_true (by kernel_rfl)) h0 bel (fun x hx => hW'.lt x (by simp [hx]))) (trodAll_cons_mk (shut_string Try.underlying9 w1) trodAll_mk0)), rfl, bel.frame _, fun h => by cases h⟩

theorem over : Rows.wireTellsRow.holds Try.pinned (OpenSpec.ofChange Rows.wireTellsSpec) :=
  OpenClaim.holds_of_wide 4 Try.f4 rfl rfl rfl rfl rfl rfl rfl ⟨rfl, rfl, rfl, rfl, rfl⟩ rfl rfl rfl rfl rfl (by kernel_rfl) Try.func4 (by kernel_rfl)
    (of_decide_eq_true (by kernel_rfl)) (by unfold Func.isWrapper; first | (rw [if_pos (by decide +kernel)]; kernel_rfl) | (rw [if_neg (by decide +kernel)]; exact ⟨rfl, rfl⟩))
    (fun os started H enc _ => lifted os started H enc)

theorem proved : Rows.WireTellsSaid := over
#print axioms proved
end Go.Proofs.Ytefldchhopgliab.wireTells
