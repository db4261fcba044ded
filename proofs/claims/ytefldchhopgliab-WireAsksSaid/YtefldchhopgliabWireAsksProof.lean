/- For every request and every text the law WireAsks answers true: whether it may be, its bytes, and the request of the bytes. No condition. -/
import Derived.Test.YtefldchhopgliabWireRefAsked
import Derived.Lib.QuietBelow
import Derived.Test.YtefldchhopgliabRows
namespace Go.Proofs.Ytefldchhopgliab.P
open Go.RowKit Go.Lib Go.Sort
/-- A whole row loaded in a quiet walk: one value, in every world of the class. -/
theorem quiet_row {P : Program} {C : World → Prop} {K : Act → Prop} {a : Act} {o : Oper} (ty : TypeId) (x : Operand) (ho : o.op = .load ty x) (g : Nat) (hx : a.eval x = .pointer (some ⟨g, 0, none⟩)) (t : TypeId) (cs : Array Value) (d : TypeDesc)
    (hg : ∀ w, C w → w.heap[g]? = some (.cells cs t (0, 0))) (hu : P.underlying ty = some d) (hd : (match d with | .struct _ | .array _ _ => true | _ => false) = true) (hi : (P.info? ty).map (·.size) = some cs.size)
    (h : K (a.put o.dst (.agg cs))) : o.quiet P a C K :=
  ⟨.agg cs, fun w hw => by
    unfold Oper.quietAt execOp
    simp only [ho, hx, Instr.loadAt, Instr.sureAddr, Sem.run_bind, Sem.run_pure, Result.andThen_ok, run_loadVar_row w g t ty cs (0, 0) d (hg w hw) hu hd hi]
    exact ⟨rfl, rfl⟩, h⟩
theorem Own.held {w : World} {g : Nat} {t : TypeId} {cs : Array Value} (h : Own w g t cs) : ∀ w', (∃ p : Regrown, w' = grow (redrawn w p.d) p.os) → w'.heap[g]? = some (.cells cs t (0, 0)) := by
  rintro w' ⟨p, rfl⟩
  exact (h.below (below_regrown w p.d p.os)).ex
end Go.Proofs.Ytefldchhopgliab.P
namespace Go.Proofs.Ytefldchhopgliab.wireAsks
open Go.ChangeShapes Go.WideShapes Go.ChangeAt Go.RowKit Go.Lib Go.Sort Go.Proofs.Ytefldchhopgliab.P
open Go.ChangeMaps (open_string shut_string)
set_option linter.unusedVariables false
set_option linter.unusedSimpArgs false
set_option maxHeartbeats 2000000
set_option maxRecDepth 100000

theorem long0 (w : World) (y0 : Rq) (A0 : Option Addr) (n0 c0 : Nat) (B0 : Option Addr) (m0 d0 : Nat) (C0 : Option Addr) (o0 e0 : Nat) (a1 : ByteArray) (k0 : RqAt w y0 A0 n0 c0 B0 m0 d0 C0 o0 e0) (w1 : a1.size ≤ maxLen) (hs : shortQ y0 = false) :
    Calls Try.prog 3 #[y0.agg A0 n0 c0 B0 m0 d0 C0 o0 e0, .string a1] w fun e w' => e = .returned (.bool true) ∧ Below w.heap.size w w' := by
  have HS := Lib.hid hs; clear hs
  have K_0 := Lib.hid (k0.keep (new1 w (.cells #[.int .i64 y0.kind, .int .i64 y0.who, .int .i64 y0.seq, .bool y0.once, .string y0.key, .string y0.val, .int .i64 y0.lease, .int .i64 y0.rev, .int .i64 y0.ttl, .int .i64 y0.token, .slice A0 n0 c0, .slice B0 m0 d0, .slice C0 o0 e0] 27)))
  have O_0 := Lib.hid (own_new w #[.int .i64 y0.kind, .int .i64 y0.who, .int .i64 y0.seq, .bool y0.once, .string y0.key, .string y0.val, .int .i64 y0.lease, .int .i64 y0.rev, .int .i64 y0.ttl, .int .i64 y0.token, .slice A0 n0 c0, .slice B0 m0 d0, .slice C0 o0 e0] 27)
  have B_0 := Lib.hid (new1 w (.cells #[.int .i64 y0.kind, .int .i64 y0.who, .int .i64 y0.seq, .bool y0.once, .string y0.key, .string y0.val, .int .i64 y0.lease, .int .i64 y0.rev, .int .i64 y0.ttl, .int .i64 y0.token, .slice A0 n0 c0, .slice B0 m0 d0, .slice C0 o0 e0] 27))
  clear k0
  go_enter Try.func3, Try.ntmps3
  go_wp2_with fail
  refine (short_any y0 A0 n0 c0 B0 m0 d0 C0 o0 e0 _ K_0.out).mono ?_; rintro e w1 ⟨rfl, hb⟩
  rw [HS.out]
  have S_1 := Lib.hid hb; clear hb
  have K_2 := Lib.hid (K_0.out.keep S_1.out)
  have O_3 := Lib.hid (O_0.out.below S_1.out)
  have B_4 := Lib.hid (then_ B_0.out S_1.out)
  clear K_0 O_0 B_0
  clear S_1
  go_wp2_with fail
  refine (live_any _).mono ?_; rintro e w2 ⟨rfl, hb⟩
  have S_5 := Lib.hid hb; clear hb
  have K_6 := Lib.hid (K_2.out.keep S_5.out)
  have O_7 := Lib.hid (O_3.out.below S_5.out)
  have B_8 := Lib.hid (then_ B_4.out S_5.out)
  clear K_2 O_3 B_4
  clear S_5
  go_wp2
  go_ret
  exact ⟨rfl, B_8.out⟩

theorem wide (w : World) (y0 : Rq) (A0 : Option Addr) (n0 c0 : Nat) (B0 : Option Addr) (m0 d0 : Nat) (C0 : Option Addr) (o0 e0 : Nat) (a1 : ByteArray) (k0 : RqAt w y0 A0 n0 c0 B0 m0 d0 C0 o0 e0) (w1 : a1.size ≤ maxLen) (hs : shortQ y0 = true) (hz : ¬ a1.size ≤ 600) :
    Calls Try.prog 3 #[y0.agg A0 n0 c0 B0 m0 d0 C0 o0 e0, .string a1] w fun e w' => e = .returned (.bool true) ∧ Below w.heap.size w w' := by
  have HS := Lib.hid hs; clear hs
  unfold maxLen at w1
  have K_0 := Lib.hid (k0.keep (new1 w (.cells #[.int .i64 y0.kind, .int .i64 y0.who, .int .i64 y0.seq, .bool y0.once, .string y0.key, .string y0.val, .int .i64 y0.lease, .int .i64 y0.rev, .int .i64 y0.ttl, .int .i64 y0.token, .slice A0 n0 c0, .slice B0 m0 d0, .slice C0 o0 e0] 27)))
  have O_0 := Lib.hid (own_new w #[.int .i64 y0.kind, .int .i64 y0.who, .int .i64 y0.seq, .bool y0.once, .string y0.key, .string y0.val, .int .i64 y0.lease, .int .i64 y0.rev, .int .i64 y0.ttl, .int .i64 y0.token, .slice A0 n0 c0, .slice B0 m0 d0, .slice C0 o0 e0] 27)
  have B_0 := Lib.hid (new1 w (.cells #[.int .i64 y0.kind, .int .i64 y0.who, .int .i64 y0.seq, .bool y0.once, .string y0.key, .string y0.val, .int .i64 y0.lease, .int .i64 y0.rev, .int .i64 y0.ttl, .int .i64 y0.token, .slice A0 n0 c0, .slice B0 m0 d0, .slice C0 o0 e0] 27))
  clear k0
  go_enter Try.func3, Try.ntmps3
  go_wp2_with fail
  refine (short_any y0 A0 n0 c0 B0 m0 d0 C0 o0 e0 _ K_0.out).mono ?_; rintro e w1 ⟨rfl, hb⟩
  rw [HS.out]
  have S_1 := Lib.hid hb; clear hb
  have K_2 := Lib.hid (K_0.out.keep S_1.out)
  have O_3 := Lib.hid (O_0.out.below S_1.out)
  have B_4 := Lib.hid (then_ B_0.out S_1.out)
  clear K_0 O_0 B_0
  clear S_1
  go_wp2_with fail
  refine (live_any _).mono ?_; rintro e w2 ⟨rfl, hb⟩
  have S_5 := Lib.hid hb; clear hb
  have K_6 := Lib.hid (K_2.out.keep S_5.out)
  have O_7 := Lib.hid (O_3.out.below S_5.out)
  have B_8 := Lib.hid (then_ B_4.out S_5.out)
  clear K_2 O_3 B_4
  clear S_5
  go_wp2
  go_ret
  exact ⟨rfl, B_8.out⟩

theorem main (w : World) (y0 : Rq) (A0 : Option Addr) (n0 c0 : Nat) (B0 : Option Addr) (m0 d0 : Nat) (C0 : Option Addr) (o0 e0 : Nat) (a1 : ByteArray) (k0 : RqAt w y0 A0 n0 c0 B0 m0 d0 C0 o0 e0) (w1 : a1.size ≤ maxLen) (hs : shortQ y0 = true) (hz : a1.size ≤ 600) :
    Calls Try.prog 3 #[y0.agg A0 n0 c0 B0 m0 d0 C0 o0 e0, .string a1] w fun e w' => e = .returned (.bool true) ∧ Below w.heap.size w w' := by
  have HS := Lib.hid hs; clear hs
  have hbb : ∀ b : Bool, (b == b) = true := fun b => by simp
  have hii : ∀ b : ByteArray, (b.toList == b.toList) = true := fun b => by simp
  have CA := Lib.hid (fun w => asked_any a1 w (by omega))
  have CB := Lib.hid (fun w => rasked_any a1 w (by omega))
  unfold RqEnd at CA CB
  generalize askedV a1 = V at CA CB
  obtain ⟨z, zb⟩ := V
  simp only at CA CB
  have K_0 := Lib.hid (k0.keep (new1 w (.cells #[.int .i64 y0.kind, .int .i64 y0.who, .int .i64 y0.seq, .bool y0.once, .string y0.key, .string y0.val, .int .i64 y0.lease, .int .i64 y0.rev, .int .i64 y0.ttl, .int .i64 y0.token, .slice A0 n0 c0, .slice B0 m0 d0, .slice C0 o0 e0] 27)))
  have O_0 := Lib.hid (own_new w #[.int .i64 y0.kind, .int .i64 y0.who, .int .i64 y0.seq, .bool y0.once, .string y0.key, .string y0.val, .int .i64 y0.lease, .int .i64 y0.rev, .int .i64 y0.ttl, .int .i64 y0.token, .slice A0 n0 c0, .slice B0 m0 d0, .slice C0 o0 e0] 27)
  have B_0 := Lib.hid (new1 w (.cells #[.int .i64 y0.kind, .int .i64 y0.who, .int .i64 y0.seq, .bool y0.once, .string y0.key, .string y0.val, .int .i64 y0.lease, .int .i64 y0.rev, .int .i64 y0.ttl, .int .i64 y0.token, .slice A0 n0 c0, .slice B0 m0 d0, .slice C0 o0 e0] 27))
  clear k0
  obtain ⟨tx, htx⟩ : ∃ tx, tx = askB y0 := ⟨_, rfl⟩
  obtain ⟨mx, hmx⟩ : ∃ mx, mx = mayAskB y0 := ⟨_, rfl⟩
  have CP := Lib.hid (fun w h => ask_any y0 A0 n0 c0 B0 m0 d0 C0 o0 e0 w h)
  have CQ := Lib.hid (fun w h => rrask_any y0 A0 n0 c0 B0 m0 d0 C0 o0 e0 w h)
  have CM := Lib.hid (fun w h => mayAsk_any y0 A0 n0 c0 B0 m0 d0 C0 o0 e0 w h)
  have CR := Lib.hid (fun w h => rAsk_any y0 A0 n0 c0 B0 m0 d0 C0 o0 e0 w h)
  rw [← htx, ← hmx] at CP CQ
  rw [← hmx] at CM CR
  clear htx hmx
  go_enter Try.func3, Try.ntmps3
  go_wp2_with (first | (refine wpList_load_row rfl 27 _ rfl _ rfl 27 _ (0, 0) _ O_0.out.ex Try.underlying27 rfl (by kernel_rfl) ?_))
  refine (short_any y0 A0 n0 c0 B0 m0 d0 C0 o0 e0 _ K_0.out).mono ?_; rintro e w1 ⟨rfl, hb⟩
  rw [HS.out]
  have O_1 := Lib.hid (O_0.out.below hb)
  have K_1 := Lib.hid (K_0.out.keep hb)
  have B_1 := Lib.hid (then_ B_0.out hb)
  clear O_0 K_0 B_0
  clear hb
  go_wp2_with (first | (refine wpList_load_row rfl 27 _ rfl _ rfl 27 _ (0, 0) _ O_1.out.ex Try.underlying27 rfl (by kernel_rfl) ?_))
  refine (CP.out _ K_1.out).mono ?_; rintro e w2 ⟨rfl, hb⟩
  have O_2 := Lib.hid (O_1.out.below hb)
  have K_2 := Lib.hid (K_1.out.keep hb)
  have B_2 := Lib.hid (then_ B_1.out hb)
  clear O_1 K_1 B_1
  clear hb
  go_wp2_with (first | (refine wpList_load_row rfl 27 _ rfl _ rfl 27 _ (0, 0) _ O_2.out.ex Try.underlying27 rfl (by kernel_rfl) ?_))
  refine (CQ.out _ K_2.out).mono ?_; rintro e w3 ⟨rfl, hb⟩
  have O_3 := Lib.hid (O_2.out.below hb)
  have K_3 := Lib.hid (K_2.out.keep hb)
  have B_3 := Lib.hid (then_ B_2.out hb)
  clear O_2 K_2 B_2
  clear hb
  go_wp2_with fail
  refine (CA.out _).mono ?_; rintro e w4 ⟨AP0, nP0, cP0, AP1, nP1, cP1, AP2, nP2, cP2, rfl, hat, hb⟩
  have O_4 := Lib.hid (O_3.out.below hb)
  have K_4 := Lib.hid (K_3.out.keep hb)
  have B_4 := Lib.hid (then_ B_3.out hb)
  clear O_3 K_3 B_3
  have P_4 := Lib.hid hat
  clear hb hat
  have N := Lib.hid (own_new w4 #[.int .i64 0, .int .i64 0, .int .i64 0, .bool false, .string ⟨#[]⟩, .string ⟨#[]⟩, .int .i64 0, .int .i64 0, .int .i64 0, .int .i64 0, .slice none 0 0, .slice none 0 0, .slice none 0 0] 27)
  have bz := below_setRow (new1 w4 (.cells #[.int .i64 0, .int .i64 0, .int .i64 0, .bool false, .string ⟨#[]⟩, .string ⟨#[]⟩, .int .i64 0, .int .i64 0, .int .i64 0, .int .i64 0, .slice none 0 0, .slice none 0 0, .slice none 0 0] 27)) (Nat.le_refl _) #[.int .i64 z.kind, .int .i64 z.who, .int .i64 z.seq, .bool z.once, .string z.key, .string z.val, .int .i64 z.lease, .int .i64 z.rev, .int .i64 z.ttl, .int .i64 z.token, .slice AP0 nP0 cP0, .slice AP1 nP1 cP1, .slice AP2 nP2 cP2]
  have O_5 := Lib.hid (O_4.out.below bz)
  have K_5 := Lib.hid (K_4.out.keep bz)
  have P_5 := Lib.hid (P_4.out.keep bz)
  have B_5 := Lib.hid (then_ B_4.out bz)
  clear O_4 K_4 P_4 B_4
  have R_5 := Lib.hid (N.out.row #[.int .i64 z.kind, .int .i64 z.who, .int .i64 z.seq, .bool z.once, .string z.key, .string z.val, .int .i64 z.lease, .int .i64 z.rev, .int .i64 z.ttl, .int .i64 z.token, .slice AP0 nP0 cP0, .slice AP1 nP1 cP1, .slice AP2 nP2 cP2])
  clear bz
  go_wp2_with (first | (refine wpList_store_row rfl 27 _ _ rfl _ _ rfl rfl 27 _ N.out.ex (by kernel_rfl) rfl (by simp [Value.oneCell']) ?_))
  clear N
  generalize (w4.alloc (.cells #[.int .i64 0, .int .i64 0, .int .i64 0, .bool false, .string ⟨#[]⟩, .string ⟨#[]⟩, .int .i64 0, .int .i64 0, .int .i64 0, .int .i64 0, .slice none 0 0, .slice none 0 0, .slice none 0 0] 27)).setRow w4.heap.size #[.int .i64 z.kind, .int .i64 z.who, .int .i64 z.seq, .bool z.once, .string z.key, .string z.val, .int .i64 z.lease, .int .i64 z.rev, .int .i64 z.ttl, .int .i64 z.token, .slice AP0 nP0 cP0, .slice AP1 nP1 cP1, .slice AP2 nP2 cP2] = w5 at *
  refine (CB.out _).mono ?_; rintro e w6 ⟨AQ0, nQ0, cQ0, AQ1, nQ1, cQ1, AQ2, nQ2, cQ2, rfl, hat, hb⟩
  have O_6 := Lib.hid (O_5.out.below hb)
  have R_6 := Lib.hid (R_5.out.below hb)
  have K_6 := Lib.hid (K_5.out.keep hb)
  have P_6 := Lib.hid (P_5.out.keep hb)
  have B_6 := Lib.hid (then_ B_5.out hb)
  clear O_5 R_5 K_5 P_5 B_5
  have Q_6 := Lib.hid hat
  clear hb hat
  have N := Lib.hid (own_new w6 #[.int .i64 0, .int .i64 0, .int .i64 0, .bool false, .string ⟨#[]⟩, .string ⟨#[]⟩, .int .i64 0, .int .i64 0, .int .i64 0, .int .i64 0, .slice none 0 0, .slice none 0 0, .slice none 0 0] 27)
  have bz := below_setRow (new1 w6 (.cells #[.int .i64 0, .int .i64 0, .int .i64 0, .bool false, .string ⟨#[]⟩, .string ⟨#[]⟩, .int .i64 0, .int .i64 0, .int .i64 0, .int .i64 0, .slice none 0 0, .slice none 0 0, .slice none 0 0] 27)) (Nat.le_refl _) #[.int .i64 z.kind, .int .i64 z.who, .int .i64 z.seq, .bool z.once, .string z.key, .string z.val, .int .i64 z.lease, .int .i64 z.rev, .int .i64 z.ttl, .int .i64 z.token, .slice AQ0 nQ0 cQ0, .slice AQ1 nQ1 cQ1, .slice AQ2 nQ2 cQ2]
  have O_7 := Lib.hid (O_6.out.below bz)
  have R_7 := Lib.hid (R_6.out.below bz)
  have K_7 := Lib.hid (K_6.out.keep bz)
  have P_7 := Lib.hid (P_6.out.keep bz)
  have Q_7 := Lib.hid (Q_6.out.keep bz)
  have B_7 := Lib.hid (then_ B_6.out bz)
  clear O_6 R_6 K_6 P_6 Q_6 B_6
  have U_7 := Lib.hid (N.out.row #[.int .i64 z.kind, .int .i64 z.who, .int .i64 z.seq, .bool z.once, .string z.key, .string z.val, .int .i64 z.lease, .int .i64 z.rev, .int .i64 z.ttl, .int .i64 z.token, .slice AQ0 nQ0 cQ0, .slice AQ1 nQ1 cQ1, .slice AQ2 nQ2 cQ2])
  clear bz
  go_upto_region 7 with (first | (refine wpList_store_row rfl 27 _ _ rfl _ _ rfl rfl 27 _ N.out.ex (by kernel_rfl) rfl (by simp [Value.oneCell']) ?_))
  try simp only [Act.put]
  clear N
  generalize (w6.alloc (.cells #[.int .i64 0, .int .i64 0, .int .i64 0, .bool false, .string ⟨#[]⟩, .string ⟨#[]⟩, .int .i64 0, .int .i64 0, .int .i64 0, .int .i64 0, .slice none 0 0, .slice none 0 0, .slice none 0 0] 27)).setRow w6.heap.size #[.int .i64 z.kind, .int .i64 z.who, .int .i64 z.seq, .bool z.once, .string z.key, .string z.val, .int .i64 z.lease, .int .i64 z.rev, .int .i64 z.ttl, .int .i64 z.token, .slice AQ0 nQ0 cQ0, .slice AQ1 nQ1 cQ1, .slice AQ2 nQ2 cQ2] = w7 at *
  have cM := fun d os => Calls.regrown_of (d := d) (os := os) (w := w7) (CM.out _ (K_7.out.keep (below_regrown _ d os)))
  have cR := fun d os => Calls.regrown_of (d := d) (os := os) (w := w7) (CR.out _ (K_7.out.keep (below_regrown _ d os)))
  have cS := fun d os => Calls.regrown_of (d := d) (os := os) (w := w7) (same_same z AP0 nP0 cP0 AP1 nP1 cP1 AP2 nP2 cP2 AQ0 nQ0 cQ0 AQ1 nQ1 cQ1 AQ2 nQ2 cQ2 _ (P_7.out.keep (below_regrown _ d os)) (Q_7.out.keep (below_regrown _ d os)))
  have cL := fun d os => Calls.regrown_of (d := d) (os := os) (w := w7) (live_any _)
  have hm := hbb mx; have hz := hbb zb; have ht := hii tx
  clear hbb hii CA CB CP CQ CM CR
  refine wp_region_quiet_below (by kernel_rfl) (by kernel_rfl) ?_
  repeat (first | (go_big_quiet_want; refine quiet_row 27 _ rfl _ rfl 27 _ _ O_7.out.held Try.underlying27 rfl (by kernel_rfl) ?_; simp only [Act.put, List.setIfInBounds_toArray, List.set_cons_succ, List.set_cons_zero]; go_big_quiet_on) | (go_big_quiet_want; refine quiet_row 27 _ rfl _ rfl 27 _ _ R_7.out.held Try.underlying27 rfl (by kernel_rfl) ?_; simp only [Act.put, List.setIfInBounds_toArray, List.set_cons_succ, List.set_cons_zero]; go_big_quiet_on) | (go_big_quiet_want; refine quiet_row 27 _ rfl _ rfl 27 _ _ U_7.out.held Try.underlying27 rfl (by kernel_rfl) ?_; simp only [Act.put, List.setIfInBounds_toArray, List.set_cons_succ, List.set_cons_zero]; go_big_quiet_on) | go_big_quiet_step (first | (with_reducible exact cM _ _) | (with_reducible exact cR _ _) | (with_reducible exact cS _ _) | (with_reducible exact cL _ _)))
  refine wpQuiet_nil ?_
  intro w9 hw'
  have hb9 : Below w7.heap.size w7 w9 := by
    obtain ⟨⟨d', os⟩, rfl⟩ := hw'
    exact below_grow (Below.refl _ _) (Nat.le_refl _) _ _
  go_wp2
  go_ret
  exact ⟨rfl, then_ B_7.out hb9⟩

theorem walk (w : World) (y0 : Rq) (A0 : Option Addr) (n0 c0 : Nat) (B0 : Option Addr) (m0 d0 : Nat) (C0 : Option Addr) (o0 e0 : Nat) (a1 : ByteArray) (k0 : RqAt w y0 A0 n0 c0 B0 m0 d0 C0 o0 e0) (w1 : a1.size ≤ maxLen) :
    Calls Try.prog 3 #[y0.agg A0 n0 c0 B0 m0 d0 C0 o0 e0, .string a1] w fun e w' => e = .returned (.bool true) ∧ Below w.heap.size w w' := by
  cases hs : shortQ y0 with
  | false => exact long0 w y0 A0 n0 c0 B0 m0 d0 C0 o0 e0 a1 k0 w1 hs
  | true =>
    by_cases hz : a1.size ≤ 600
    · exact main w y0 A0 n0 c0 B0 m0 d0 C0 o0 e0 a1 k0 w1 hs hz
    · exact wide w y0 A0 n0 c0 B0 m0 d0 C0 o0 e0 a1 k0 w1 hs hz

theorem own : ownKnob Try.prog.godebug = none := by kernel_rfl
theorem laidOut : laidOutB Try.prog = true := by kernel_rfl

set_option maxRecDepth 100000 in
theorem lifted (os : Os) (started : os.Started) (H : Type) (enc : TypeId × Value → H) :
    ReturnsInHanded {} Try.checked os 3 .any (Rows.wireAsksSpec.pre6 enc Try.prog Try.f3 Rows.wireAsksRow.domain false) (Rows.wireAsksSpec.post enc Try.prog Try.f3 false true false false) := by
  refine returnsInHanded_of_change (C := Try.checked) own started (by kernel_rfl) Try.func3
    (ChangeSpec.witness6 (enc := enc) (C := Try.checked) false ⟨#[], #[.agg #[.int .i64 0, .int .i64 0, .int .i64 0, .bool false, .string ByteArray.empty, .string ByteArray.empty, .int .i64 0, .int .i64 0, .int .i64 0, .int .i64 0, .slice none 0 0, .slice none 0 0, .slice none 0 0], .string ByteArray.empty], []⟩ 8 (by kernel_rfl) (by kernel_rfl) (by kernel_rfl) (by kernel_rfl)) ?_
  intro W base args ds gs before hval0 hW hcnd _
  have hval : ∀ (j : Nat) t v, Try.f3.params[j]? = some t → args[j]? = some v → Value.okWide Try.prog W .any base t v := hval0
  have hW' := hW
  obtain ⟨p, q, hA0, hV, rfl, hfz, hnd⟩ := hW
  have hA : DataW.TrodAll enc Try.prog W 0 (fun _ => true) true Try.f3.params.toList args.toList ds p := hA0
  rw [Try.params3] at hA hval
  obtain ⟨v0, vs0, d0, ds0, p0, q0, hargs, rfl, rfl, h0, r0⟩ := trodAll_cons hA
  obtain ⟨v1, vs1, d1, ds1, p1, q1, rfl, rfl, rfl, h1, r1⟩ := trodAll_cons r0
  obtain ⟨rfl, rfl, rfl⟩ := trodAll_nil r1
  obtain rfl : args = #[v0, v1] := by cases args; simp_all
  obtain ⟨rfl, rfl⟩ := trodVars_none hV
  obtain ⟨y0, A0, n0, c0, B0, m0, d0, C0, o0, e0, rfl, k0⟩ := open_rq (hval 0 27 v0 rfl rfl) h0
  obtain ⟨a1, rfl, rfl, rfl, w1⟩ := open_string Try.underlying9 (hval 1 9 v1 rfl rfl) h1
  clear hA0 hval0
  refine (walk W y0 A0 n0 c0 B0 m0 d0 C0 o0 e0 a1 k0 w1).mono fun e W' ⟨he, bel⟩ => ?_
  subst he
  exact ⟨_, rfl, _, _, _, [], _, [], hW', trodAll_mk1 (shut_bool Try.underlying4 _), (trodAll_cons_mk (Below.trod laidOut (by kernel_rfl) (of_decide_eq_true (by kernel_rfl)) h0 bel (fun x hx => hW'.lt x (by simp [hx]))) (trodAll_cons_mk (shut_string Try.underlying9 w1) trodAll_mk0)), rfl, bel.frame _, fun h => by cases h⟩

theorem over : Rows.wireAsksRow.holds Try.pinned (OpenSpec.ofChange Rows.wireAsksSpec) :=
  OpenClaim.holds_of_wide 3 Try.f3 rfl rfl rfl rfl rfl rfl rfl ⟨rfl, rfl, rfl, rfl, rfl⟩ rfl rfl rfl rfl rfl (by kernel_rfl) Try.func3 (by kernel_rfl)
    (of_decide_eq_true (by kernel_rfl)) (by unfold Func.isWrapper; first | (rw [if_pos (by decide +kernel)]; kernel_rfl) | (rw [if_neg (by decide +kernel)]; exact ⟨rfl, rfl⟩))
    (fun os started H enc _ => lifted os started H enc)

theorem proved : Rows.WireAsksSaid := over
#print axioms proved
end Go.Proofs.Ytefldchhopgliab.wireAsks
