import Derived.Test.YtblmodlpopnckaaPt1
namespace Go.Proofs.Ytblmodlpopnckaa
open Go.ChangeShapes Go.WideShapes Go.ChangeAt Go.RowKit

theorem join3B (u : World) (a b c : ByteArray) (hz : a.size + b.size + c.size ≤ 1099511627776) : Calls Try.prog 36 #[.slice (some ⟨u.heap.size, 0, none⟩) 3 3] (u.alloc (.cells #[.string a, .string b, .string c] 9)) fun e w' => e = .returned (.string (a ++ b ++ c)) ∧ Below u.heap.size u w' := by
  have e : (⟨(catB [a, b, c]).toArray⟩ : ByteArray) = a ++ b ++ c := ba_of _ _ (by simp [catB])
  rw [← e]
  refine (joined_any u.heap.size 3 3 [a, b, c] _ rfl (by simp) ?_ (by omega) ?_).mono ?_
  · intro i hi
    match i, hi with
    | 0, _ => simp
    | 1, _ => simp
    | 2, _ => simp
  · simp [catB]
    omega
  · rintro e w' ⟨rfl, hb⟩
    exact ⟨rfl, (LG.new u _ _).bel.trans (hb.mono (by simp))⟩
set_option maxRecDepth 100000 in
set_option maxHeartbeats 4000000 in
theorem ftText_any (x : FT) (hx : ftOk x = true) (w : World) : Calls Try.prog 51 #[.agg #[.string x.name, .int .i64 x.rev, .string x.body]] w fun e w' => e = .returned (.string (ftX x)) ∧ Below w.heap.size w w' := by
  obtain ⟨b1, b2, b3, b4, b5⟩ := ftOk_b hx
  have hW : ftW x % 256 = 0 := by unfold ftW; omega
  have HTX : Hid (∀ c : Int, 0 ≤ c → c < 256 → (⟨((ftK x).data.toList.set 4 (UInt8.ofNat c.toNat)).toArray⟩ : ByteArray) = x.name ++ pw (ftW x + c) ++ x.body) := fun c h0 h1 => text_eq _ _ _ _ b1 hW h0 h1
  have E : Hid (ftX x = x.name ++ pw (ftW x + (-(smb (ftK x) (ftK x).size)) % 256) ++ x.body) := rfl
  have HJS : Hid ((ftK x).size = 8 + x.body.size) := (show _ = _ by rw [ftK, ba_sz, ba_sz, pw_sz]; omega)
  have HL0 : Hid (LG w (w.alloc (.cells #[.string x.name, .int .i64 x.rev, .string x.body] 40)) w.heap.size #[.string x.name, .int .i64 x.rev, .string x.body] 40) := LG.new w _ _
  have HP : Hid (∀ u, Calls Try.prog 56 #[.int .i64 (ftW x)] u fun e w' => e = .returned (.string (pw (ftW x))) ∧ Below u.heap.size u w') := fun u => implPutWord_any _ u
  have HJ : Hid (∀ u : World, Calls Try.prog 36 #[.slice (some ⟨u.heap.size, 0, none⟩) 3 3] (u.alloc (.cells #[.string x.name, .string (pw (ftW x)), .string x.body] 9)) fun e w' => e = .returned (.string (ftK x)) ∧ Below u.heap.size u w') := fun u => join3B u _ _ _ (by rw [pw_sz]; omega)
  have eW : (8 + (x.body.size : Int)) * 65536 + x.rev * 256 = ftW x := rfl
  have hWb : 0 ≤ ftW x ∧ ftW x ≤ 20000000 := by unfold ftW; omega
  have w1 : IntKind.i64.wrap ((8 + (x.body.size : Int)) * 65536) = (8 + (x.body.size : Int)) * 65536 := by rw [IntKind.wrap_i64]; omega
  have w2 : IntKind.i64.wrap (x.rev * 256) = x.rev * 256 := by rw [IntKind.wrap_i64]; omega
  have w3 : IntKind.i64.wrap ((8 + (x.body.size : Int)) * 65536 + x.rev * 256) = ftW x := by rw [eW, IntKind.wrap_i64]; omega
  clear eW
  generalize ftW x = W at *
  generalize pw W = pW at *
  generalize ftX x = V at *
  generalize ftK x = J at *
  go_enter Try.func51, Try.ntmps51
  go_upto_region 1 with fail
  generalize (w.alloc (.cells #[.string x.name, .int .i64 x.rev, .string x.body] 40)) = u0 at *
  generalize hq0 : w.heap.size = q0 at HL0 ⊢
  have HQ0 : Hid (w.heap.size = q0) := hq0
  clear hq0
  have k0 := HL0.out.cel 0 _ rfl
  have k1 := HL0.out.cel 1 _ rfl
  have k2 := HL0.out.cel 2 _ rfl
  have kl := HL0.out.lt
  go_upto_region 2 with fail
  clear k0 k1 k2 kl
  have HZ0 : Hid (LG w u0.drew q0 #[.string x.name, .int .i64 x.rev, .string x.body] 40) := HL0.out.drew
  clear HL0
  refine wp_region_held (S := fun w9 => LG w w9 q0 #[.string x.name, .int .i64 x.rev, .string x.body] 40) (by kernel_rfl) ?_
  change wpAnyH _ _ _ _ _ _ _ _ (World.drew _)
  generalize u0.drew = x0 at *
  refine wpAnyH_take (i := 0) (v := .pointer (some ⟨q0, 0, none⟩)) rfl (by kernel_rfl) (by kernel_rfl) (by kernel_rfl) (fun _ _ _ h => h) (Or.inl ⟨by kernel_rfl, fun w9 h9 => ?_⟩) HZ0.out ?_
  · go_simp
  refine wpAnyH_take (i := 1) (v := .string x.name) rfl (by kernel_rfl) (by kernel_rfl) (by kernel_rfl) (fun _ _ _ h => h) (Or.inl ⟨by kernel_rfl, fun w9 h9 => ?_⟩) HZ0.out ?_
  · have k0 := h9.cel 0 _ rfl; have k1 := h9.cel 1 _ rfl; have k2 := h9.cel 2 _ rfl; have kl := h9.lt; clear h9; go_simp
  refine wpAnyH_take (i := 2) (v := .int .i64 (8 + (x.body.size : Int))) rfl (by kernel_rfl) (by kernel_rfl) (by kernel_rfl) (fun _ _ _ h => h) (Or.inl ⟨by kernel_rfl, fun w9 h9 => ?_⟩) HZ0.out ?_
  · go_simp
  refine wpAnyH_take (i := 3) (v := .int .i64 ((8 + (x.body.size : Int)) * 65536)) rfl (by kernel_rfl) (by kernel_rfl) (by kernel_rfl) (fun _ _ _ h => h) (Or.inl ⟨by kernel_rfl, fun w9 h9 => ?_⟩) HZ0.out ?_
  · go_simp
  refine wpAnyH_take (i := 4) (v := .pointer (some ⟨q0, 1, none⟩)) rfl (by kernel_rfl) (by kernel_rfl) (by kernel_rfl) (fun _ _ _ h => h) (Or.inl ⟨by kernel_rfl, fun w9 h9 => ?_⟩) HZ0.out ?_
  · go_simp
  refine wpAnyH_take (i := 5) (v := .int .i64 x.rev) rfl (by kernel_rfl) (by kernel_rfl) (by kernel_rfl) (fun _ _ _ h => h) (Or.inl ⟨by kernel_rfl, fun w9 h9 => ?_⟩) HZ0.out ?_
  · have k0 := h9.cel 0 _ rfl; have k1 := h9.cel 1 _ rfl; have k2 := h9.cel 2 _ rfl; have kl := h9.lt; clear h9; go_simp
  refine wpAnyH_take (i := 6) (v := .int .i64 (x.rev * 256)) rfl (by kernel_rfl) (by kernel_rfl) (by kernel_rfl) (fun _ _ _ h => h) (Or.inl ⟨by kernel_rfl, fun w9 h9 => ?_⟩) HZ0.out ?_
  · go_simp
  refine wpAnyH_take (i := 7) (v := .int .i64 W) rfl (by kernel_rfl) (by kernel_rfl) (by kernel_rfl) (fun _ _ _ h => h) (Or.inl ⟨by kernel_rfl, fun w9 h9 => ?_⟩) HZ0.out ?_
  · go_simp
  refine wpAnyH_take (i := 9) (v := .pointer (some ⟨q0, 2, none⟩)) rfl (by kernel_rfl) (by kernel_rfl) (by kernel_rfl) (fun _ _ _ h => h) (Or.inl ⟨by kernel_rfl, fun w9 h9 => ?_⟩) HZ0.out ?_
  · go_simp
  refine wpAnyH_take (i := 10) (v := .string x.body) rfl (by kernel_rfl) (by kernel_rfl) (by kernel_rfl) (fun _ _ _ h => h) (Or.inl ⟨by kernel_rfl, fun w9 h9 => ?_⟩) HZ0.out ?_
  · have k0 := h9.cel 0 _ rfl; have k1 := h9.cel 1 _ rfl; have k2 := h9.cel 2 _ rfl; have kl := h9.lt; clear h9; go_simp
  refine held_one 8 (by kernel_rfl) rfl (by kernel_rfl) fun K hK => ?_
  go_simp
  go_wp2_with (go_at_call 56; refine Calls.mono (HP.out _) ?_; rintro e x1 ⟨rfl, hb⟩; have HZ1 : Hid (LG w x1 q0 #[.string x.name, .int .i64 x.rev, .string x.body] 40) := HZ0.out.step hb; clear hb HZ0)
  refine hK _ _ HZ1.out ?_
  clear hK K
  have HZ2 : Hid (LG w (x1.alloc (.cells #[.string x.name, .string pW, .string x.body] 9)) q0 #[.string x.name, .int .i64 x.rev, .string x.body] 40) := HZ1.out.step (LG.new x1 _ _).bel
  refine held_one 11 (by kernel_rfl) rfl (by kernel_rfl) fun K hK => ?_
  go_simp
  refine hK _ _ HZ2.out ?_
  clear hK K
  refine held_one 12 (by kernel_rfl) rfl (by kernel_rfl) fun K hK => ?_
  go_simp
  go_wp2_with (go_at_call 36; refine Calls.mono (HJ.out x1) ?_; rintro e x2 ⟨rfl, hb⟩; have HZ3 : Hid (LG w x2 q0 #[.string x.name, .int .i64 x.rev, .string x.body] 40) := HZ1.out.step hb; clear hb HZ1 HZ2)
  refine hK _ _ HZ3.out ?_
  clear hK K
  have hcv := bw_conv x2 J
  have HZ4 : Hid (LG w (Lib.bytesWorld x2 5 J) q0 #[.string x.name, .int .i64 x.rev, .string x.body] 40) := HZ3.out.step (bw_below x2 J)
  refine held_one 13 (by kernel_rfl) rfl (by kernel_rfl) fun K hK => ?_
  go_simp
  refine hK _ _ HZ4.out ?_
  clear hK K hcv
  generalize grownCap x2 J.size 0 5 = cj at *
  refine wpAnyH_take (i := 14) (v := .slice (some ⟨x2.heap.size, 0, none⟩) J.size cj) rfl (by kernel_rfl) (by kernel_rfl) (by kernel_rfl) (fun _ _ _ h => h) (Or.inl ⟨by kernel_rfl, fun w9 h9 => ?_⟩) HZ4.out ?_
  · go_simp
  refine wpAnyH_done (by kernel_rfl) ?_ _
  go_simp
  go_upto_region 5 with fail
  have HBW : Hid (Below w.heap.size w (Lib.bytesWorld x2 5 J)) := HZ4.out.bel
  have HXW : Hid (w.heap.size ≤ x2.heap.size) := HZ3.out.bel.size
  have HJS2 : Hid (J.size ≤ 208 ∧ 8 ≤ J.size) := (show _ ∧ _ by have := HJS.out; omega)
  clear HZ3 HZ4 w1 w2 w3 HJ HP
  go_loopw [5, 28] (fun sm i wr => ∃ k : Nat, k ≤ J.size ∧ sm = .int .u8 (smb J k % 256) ∧ i = .int .i64 k ∧ wr = Lib.bytesWorld x2 5 J) (fun _ i _ => J.size - (intOf i).toNat)
  case atStart => exact ⟨0, Nat.zero_le _, rfl, rfl, rfl⟩
  case round =>
    obtain ⟨k, hk, rfl, rfl, rfl⟩ := hrel
    have hjs := HJS2.out
    by_cases hlt : k < J.size
    · have d0 := bw_cell x2 J k hlt
      have hbk := bt_b J k
      have hsz : x2.heap.size < (Lib.bytesWorld x2 5 J).heap.size := by rw [Lib.bytesWorld_size]; omega
      have HSM : Hid (smb J (k + 1) = smb J k + bt J k) := rfl
      generalize bt J k = b at *
      generalize smb J k = m at *
      have hk0 : (0 : Int) ≤ (k : Int) := by omega
      have hk1 : (k : Int) < (J.size : Int) := by omega
      go_wp2
      exact ⟨⟨k + 1, hlt, (by rw [HSM.out]; refine congrArg (Value.int .u8) ?_; omega), (by go_num), trivial⟩, (by simp [intOf]; omega)⟩
    · have hke : k = J.size := by omega
      rw [hke]
      have hnl : ¬ ((J.size : Nat) : Int) < (J.size : Int) := by omega
      obtain ⟨c, hc⟩ : ∃ c, (-(smb J J.size)) % 256 = c := ⟨_, rfl⟩
      have hc0 : 0 ≤ c := by omega
      have hc1 : c < 256 := by omega
      have HV : Hid (V = ⟨(J.data.toList.set 4 (UInt8.ofNat c.toNat)).toArray⟩) := (show _ = _ by rw [E.out, hc, HTX.out c hc0 hc1])
      have hng : (-(smb J J.size % 256)) % 256 = c := by omega
      have d0 := bw_cell x2 J 4 (by omega)
      have f0 := bw_frozen x2 J 4 (by omega)
      have hsz : x2.heap.size < (Lib.bytesWorld x2 5 J).heap.size := by rw [Lib.bytesWorld_size]; omega
      have hbk := bw_back x2 J 4 cj (UInt8.ofNat c.toNat) (by omega)
      rw [u8_of c hc0 hc1] at hbk
      have h4 : (4 : Int) < (J.size : Int) := by omega
      have HB9 : Hid (Below w.heap.size w ((Lib.bytesWorld x2 5 J).setCell ⟨x2.heap.size, 4, none⟩ (.int .u8 c))) := HBW.out.setCell HXW.out _
      clear hke hlt hk hc E HTX hjs
      generalize smb J J.size = m at *
      go_wp2
      go_ret
      exact ⟨by rw [HV.out]; rfl, by first | exact HB9.out | (rw [← HQ0.out]; exact HB9.out)⟩
end Go.Proofs.Ytblmodlpopnckaa
