import Derived.Test.YtdgmoiflahoihabCPx

namespace Go.Proofs.Ytdgmoiflahoihab
set_option maxRecDepth 100000 in
theorem cp_row6 : [0, 1, 2, 3, 4, 5, 6, 7, 8].all (fun j => cpGood (cpBody 6 j 1) 1 && cpGood (cpBody 6 j 2) 2 && cpGood (cpBody 6 j 3) 3) = true ∧ cpGood (cpBody 6 0 4) 4 = true := ⟨by kernel_rfl, by kernel_rfl⟩
set_option maxRecDepth 100000 in
theorem cp_row7 : [0, 1, 2, 3, 4, 5, 6, 7, 8].all (fun j => cpGood (cpBody 7 j 1) 1 && cpGood (cpBody 7 j 2) 2 && cpGood (cpBody 7 j 3) 3) = true ∧ cpGood (cpBody 7 0 4) 4 = true := ⟨by kernel_rfl, by kernel_rfl⟩
set_option maxRecDepth 100000 in
theorem cp_row8 : [0, 1, 2, 3, 4, 5, 6, 7, 8].all (fun j => cpGood (cpBody 8 j 1) 1 && cpGood (cpBody 8 j 2) 2 && cpGood (cpBody 8 j 3) 3) = true ∧ cpGood (cpBody 8 0 4) 4 = true := ⟨by kernel_rfl, by kernel_rfl⟩
end Go.Proofs.Ytdgmoiflahoihab
