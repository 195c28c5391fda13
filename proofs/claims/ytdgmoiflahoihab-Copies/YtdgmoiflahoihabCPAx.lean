import Derived.Test.YtdgmoiflahoihabCPx

namespace Go.Proofs.Ytdgmoiflahoihab
set_option maxRecDepth 100000 in
theorem cp_row0 : [0, 1, 2, 3, 4, 5, 6, 7, 8].all (fun j => cpGood (cpBody 0 j 1) 1 && cpGood (cpBody 0 j 2) 2 && cpGood (cpBody 0 j 3) 3) = true ∧ cpGood (cpBody 0 0 4) 4 = true := ⟨by kernel_rfl, by kernel_rfl⟩
set_option maxRecDepth 100000 in
theorem cp_row1 : [0, 1, 2, 3, 4, 5, 6, 7, 8].all (fun j => cpGood (cpBody 1 j 1) 1 && cpGood (cpBody 1 j 2) 2 && cpGood (cpBody 1 j 3) 3) = true ∧ cpGood (cpBody 1 0 4) 4 = true := ⟨by kernel_rfl, by kernel_rfl⟩
set_option maxRecDepth 100000 in
theorem cp_row2 : [0, 1, 2, 3, 4, 5, 6, 7, 8].all (fun j => cpGood (cpBody 2 j 1) 1 && cpGood (cpBody 2 j 2) 2 && cpGood (cpBody 2 j 3) 3) = true ∧ cpGood (cpBody 2 0 4) 4 = true := ⟨by kernel_rfl, by kernel_rfl⟩
end Go.Proofs.Ytdgmoiflahoihab
