/- What a nil disk answers; an error's number. Conditions: none. -/
import Derived.Test.YthjabfhfkikalaaAlive
namespace Go.Proofs.Ythjabfhfkikalaa
open Go.RowKit Go.Maps Go.WideMaps

set_option maxHeartbeats 400000 in
theorem num_err (n : Nat) (w : World) (hn : n ≠ 0) : Calls Try.prog 17 #[.iface 46 (.int .i64 n)] w fun e w' => e = .returned (.int .i64 n) ∧ w = w' := by
  have h0 : ((n : Int) == 0) = false := by simpa using hn
  have hta : ∀ w : World, (Instr.typeAssert (.iface 46 (.int .i64 n)) 35 46 true).run Try.prog w = .ok (.tuple #[.int .i64 n, .bool true]) w := fun w => by kernel_rfl
  clear hn
  go_enter Try.func17, Try.ntmps17
  go_wp2
  go_ret
  exact ⟨rfl, rfl⟩

set_option maxHeartbeats 400000 in
theorem num_nil (w : World) : Calls Try.prog 17 #[.nilIface] w fun e w' => e = .returned (.int .i64 0) ∧ w = w' := by
  go_enter Try.func17, Try.ntmps17
  go_wp2
  go_ret
  exact ⟨rfl, rfl⟩

set_option maxHeartbeats 400000 in
theorem nil_find (n : ByteArray) (w : World) : Calls Try.prog 44 #[.pointer none, .string n] w fun e w' => e = .returned (.tuple #[.pointer none, .iface 46 (.int .i64 28)]) ∧ Only (fun _ => False) w w' := by
  have hal : Only (fun _ => False) w (w.alloc (.cells #[.string n] 9)) := Only.alloc _
  have HA := Lib.hid hal
  clear hal
  go_enter Try.func44, Try.ntmps44
  go_wp2_with (go_at_call 45; refine (ready_nil _ _).mono ?_; rintro e w' ⟨rfl, rfl⟩; simp only [errV])
  go_ret2
  exact ⟨rfl, HA.out⟩

set_option maxHeartbeats 400000 in
theorem nil_Read (n : ByteArray) (w : World) : Calls Try.prog 18 #[.pointer none, .string n] w fun e w' => e = .returned (.tuple #[.slice none 0 0, .iface 46 (.int .i64 28)]) ∧ Only (fun _ => False) w w' := by
  go_enter Try.func18, Try.ntmps18
  go_wp2_with (go_at_call 44; refine (nil_find _ _).mono ?_; rintro e w1 ⟨rfl, ho⟩; have HO := Lib.hid ho; clear ho)
  go_ret2
  exact ⟨rfl, HO.out⟩

set_option maxHeartbeats 400000 in
theorem nil_ReadAt (n : ByteArray) (p q : Int) (w : World) : Calls Try.prog 19 #[.pointer none, .string n, .int .i64 p, .int .i64 q] w fun e w' => e = .returned (.tuple #[.slice none 0 0, .iface 46 (.int .i64 28)]) ∧ Only (fun _ => False) w w' := by
  go_enter Try.func19, Try.ntmps19
  go_wp2_with (go_at_call 44; refine (nil_find _ _).mono ?_; rintro e w1 ⟨rfl, ho⟩; have HO := Lib.hid ho; clear ho)
  go_ret2
  exact ⟨rfl, HO.out⟩

set_option maxHeartbeats 400000 in
theorem nil_Create (n : ByteArray) (w : World) : Calls Try.prog 20 #[.pointer none, .string n] w fun e w' => e = .returned ((.iface 46 (.int .i64 28))) ∧ Only (fun _ => False) w w' := by
  have HO : Hid (Only (fun _ => False) w (w.alloc (.cells #[.string n] 9))) := Only.alloc _
  go_enter Try.func20, Try.ntmps20
  go_wp2_with (go_at_call 45; refine (ready_nil _ _).mono ?_; rintro e w' ⟨rfl, rfl⟩; simp only [errV])
  go_ret
  exact ⟨rfl, HO.out⟩

set_option maxHeartbeats 400000 in
theorem nil_Append (n : ByteArray) (w : World) : Calls Try.prog 21 #[.pointer none, .string n, .slice none 0 0] w fun e w' => e = .returned ((.iface 46 (.int .i64 28))) ∧ Only (fun _ => False) w w' := by
  go_enter Try.func21, Try.ntmps21
  go_wp2_with (go_at_call 44; refine (nil_find _ _).mono ?_; rintro e w1 ⟨rfl, ho⟩; have HO := Lib.hid ho; clear ho)
  go_ret
  exact ⟨rfl, HO.out⟩

set_option maxHeartbeats 400000 in
theorem nil_Sync (n : ByteArray) (w : World) : Calls Try.prog 22 #[.pointer none, .string n] w fun e w' => e = .returned ((.iface 46 (.int .i64 28))) ∧ Only (fun _ => False) w w' := by
  go_enter Try.func22, Try.ntmps22
  go_wp2_with (go_at_call 44; refine (nil_find _ _).mono ?_; rintro e w1 ⟨rfl, ho⟩; have HO := Lib.hid ho; clear ho)
  go_ret
  exact ⟨rfl, HO.out⟩

set_option maxHeartbeats 400000 in
theorem nil_SyncDir (w : World) : Calls Try.prog 23 #[.pointer none] w fun e w' => e = .returned ((.iface 46 (.int .i64 28))) ∧ w = w' := by
  go_enter Try.func23, Try.ntmps23
  go_wp2_with (go_at_call 45; refine (ready_nil _ _).mono ?_; rintro e w' ⟨rfl, rfl⟩; simp only [errV])
  go_ret
  exact ⟨rfl, rfl⟩

set_option maxHeartbeats 400000 in
theorem nil_Rename (n t : ByteArray) (w : World) : Calls Try.prog 24 #[.pointer none, .string n, .string t] w fun e w' => e = .returned ((.iface 46 (.int .i64 28))) ∧ Only (fun _ => False) w w' := by
  have HO : Hid (Only (fun _ => False) w (w.alloc (.cells #[.string n, .string t] 9))) := Only.alloc _
  go_enter Try.func24, Try.ntmps24
  go_wp2_with (go_at_call 45; refine (ready_nil _ _).mono ?_; rintro e w' ⟨rfl, rfl⟩; simp only [errV])
  go_ret
  exact ⟨rfl, HO.out⟩

set_option maxHeartbeats 400000 in
theorem nil_Remove (n : ByteArray) (w : World) : Calls Try.prog 25 #[.pointer none, .string n] w fun e w' => e = .returned ((.iface 46 (.int .i64 28))) ∧ Only (fun _ => False) w w' := by
  go_enter Try.func25, Try.ntmps25
  go_wp2_with (go_at_call 44; refine (nil_find _ _).mono ?_; rintro e w1 ⟨rfl, ho⟩; have HO := Lib.hid ho; clear ho)
  go_ret
  exact ⟨rfl, HO.out⟩

set_option maxHeartbeats 400000 in
theorem nil_Arm (n : Int) (w : World) : Calls Try.prog 26 #[.pointer none, .int .i64 n] w fun e w' => e = .returned ((.iface 46 (.int .i64 28))) ∧ w = w' := by
  go_enter Try.func26, Try.ntmps26
  go_wp2
  go_ret
  exact ⟨rfl, rfl⟩

set_option maxHeartbeats 400000 in
theorem nil_Fail (v : Value) (w : World) : Calls Try.prog 27 #[.pointer none, v] w fun e w' => e = .returned ((.iface 46 (.int .i64 28))) ∧ w = w' := by
  go_enter Try.func27, Try.ntmps27
  go_wp2
  go_ret
  exact ⟨rfl, rfl⟩

set_option maxHeartbeats 400000 in
theorem nil_Put (n : ByteArray) (v : Value) (w : World) : Calls Try.prog 28 #[.pointer none, .string n, v] w fun e w' => e = .returned ((.iface 46 (.int .i64 28))) ∧ w = w' := by
  go_enter Try.func28, Try.ntmps28
  go_wp2
  go_ret
  exact ⟨rfl, rfl⟩

set_option maxHeartbeats 400000 in
theorem nil_Drop (n : ByteArray) (w : World) : Calls Try.prog 29 #[.pointer none, .string n] w fun e w' => e = .returned ((.iface 46 (.int .i64 28))) ∧ w = w' := by
  go_enter Try.func29, Try.ntmps29
  go_wp2
  go_ret
  exact ⟨rfl, rfl⟩

set_option maxHeartbeats 400000 in
theorem nil_List (w : World) : Calls Try.prog 30 #[.pointer none] w fun e w' => e = .returned (.slice none 0 0) ∧ w = w' := by
  go_enter Try.func30, Try.ntmps30
  go_wp2
  go_ret
  exact ⟨rfl, rfl⟩

set_option maxHeartbeats 400000 in
theorem nil_Files (w : World) : Calls Try.prog 12 #[.pointer none] w fun e w' => e = .returned (.slice none 0 0) ∧ w = w' := by
  go_enter Try.func12, Try.ntmps12
  go_wp2
  go_ret
  exact ⟨rfl, rfl⟩

set_option maxHeartbeats 400000 in
theorem nil_Used (w : World) : Calls Try.prog 31 #[.pointer none] w fun e w' => e = .returned (.int .i64 0) ∧ w = w' := by
  go_enter Try.func31, Try.ntmps31
  go_wp2
  go_ret
  exact ⟨rfl, rfl⟩

set_option maxHeartbeats 400000 in
theorem nil_Steps (w : World) : Calls Try.prog 13 #[.pointer none] w fun e w' => e = .returned (.int .i64 0) ∧ w = w' := by
  go_enter Try.func13, Try.ntmps13
  go_wp2
  go_ret
  exact ⟨rfl, rfl⟩

set_option maxHeartbeats 400000 in
theorem nil_Down (w : World) : Calls Try.prog 32 #[.pointer none] w fun e w' => e = .returned (.bool false) ∧ w = w' := by
  go_enter Try.func32, Try.ntmps32
  go_wp2
  go_ret
  exact ⟨rfl, rfl⟩

set_option maxHeartbeats 400000 in
theorem nil_Crash (n : Int) (w : World) : Calls Try.prog 15 #[.pointer none, .agg #[.int .i64 n, .slice none 0 0]] w fun e w' => e = .returned (.tuple #[]) ∧ Only (fun _ => False) w w' := by
  have HO : Hid (Only (fun _ => False) w (w.alloc (.cells #[.int .i64 n, .slice none 0 0] 26))) := Only.alloc _
  go_enter Try.func15, Try.ntmps15
  go_wp2
  exact bodyPost_ret (v := .tuple #[]) (by simp [results, Try.results15, go_sem]) rfl ⟨rfl, HO.out⟩

end Go.Proofs.Ythjabfhfkikalaa
